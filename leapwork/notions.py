"""Which notions stand firm."""

from leapwork.terms import kind_of, notion_terms_in, notions_in


def firm(notions):
    """The names of the notions of a dict that stand firm in it, rising."""
    standing = {}
    # A notion leans on lower floors alone, so these are asked ahead of it.
    for name in sorted(notions, key=lambda each: notions[each][2]):
        if _stands(notions[name], notions, standing):
            standing[name] = True
    return sorted(standing)


def places_fit(places, letters):
    """Whether the places are as many as the letters, and of their kinds."""
    if len(places) != len(letters):
        return False
    return all([kind_of(place) == kind for place, (_, kind) in zip(places, letters)])


def _stands(notion, notions, standing):
    """Whether a notion stands firm, where standing has all lower ones that do."""
    _, name, floor, letters, zero, more = notion
    if not letters or not has_itself_as_told(notion):
        return False
    for term in notion_terms_in(zero) + notion_terms_in(more):
        if term[1] == name:
            if not places_fit(term[2], letters):
                return False
        elif not _leans_well(term, floor, notions, standing):
            return False
    return True


def _leans_well(term, floor, notions, standing):
    """Whether the other notion of this term is lower than the floor, stands firm, and fits."""
    _, name, places = term
    if name not in standing:
        return False
    return notions[name][2] < floor and places_fit(places, notions[name][3])


def has_itself_as_told(notion):
    """Whether a notion stands in itself nowhere, or once in more, with its last letter less one."""
    _, name, _, letters, zero, more = notion
    if name in notions_in(zero):
        return False
    own = [term for term in notion_terms_in(more) if term[1] == name]
    if not own:
        return True
    # Within its own places it would stand a second time.
    less_one = ("add", ("name", letters[-1][0]), ("num", -1))
    return len(own) == 1 and own[0][2][-1:] == (less_one,)
