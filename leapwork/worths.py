"""What terms, row terms and sayings come to at a table."""

from leapwork.looks import Firm, Look


def worth_of(thing, table, notions):
    """The worth of a term or row term at a table, or None."""
    return Look(Firm(notions)).worth(thing, table)


def truth_of(saying, table, notions):
    """Whether a saying is so at a table: True, False, or None."""
    return Look(Firm(notions)).truth(saying, table)


def first_no(saying, table, notions):
    """The first place at which an all isn't so; None where there is none, and of all else."""
    return Look(Firm(notions)).seen(saying, table)[1]


def looked(saying, table, notions):
    """The saying's truth, and what the look counted."""
    look = Look(Firm(notions))
    truth = look.truth(saying, table)
    return truth, look.count
