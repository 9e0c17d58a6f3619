"""What sayings that are made of sayings come to: both of their parts, or one of two cases."""

ONE = ("num", 1)
NOUGHT = ("num", 0)


def one_more(term):
    """The term that is one more."""
    return ("add", term, ONE)


def parts_of_saying(saying):
    """The sayings that are so, all of them, where an and-like saying is; None of all else."""
    if saying[0] == "and":
        return [saying[1], saying[2]]
    if saying[0] == "not" and saying[1][0] == "or":
        return [("not", saying[1][1]), ("not", saying[1][2])]
    if saying[0] == "not" and saying[1][0] == "not":
        return [saying[1][1]]
    return None


def cases_of_saying(saying):
    """The two sayings one of which is so where an or-like saying is; None of all else."""
    if saying[0] == "or":
        return [saying[1], saying[2]]
    if saying[0] == "not" and saying[1][0] == "and":
        return [("not", saying[1][1]), ("not", saying[1][2])]
    if saying[0] == "not" and saying[1][0] == "eq":
        _, one, other = saying[1]
        return [("le", one_more(one), other), ("le", one_more(other), one)]
    return None
