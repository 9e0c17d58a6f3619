"""Where things stand in a text: the terms, row terms and sayings that stand in no other one."""

from leapwork.blocks import block_of, numbered, oaths_of
from leapwork.terms import notions_in


def sites_of(text):
    """All of them as they stand, tuples (where, thing)."""
    if text[0] == "notion":
        return [("zero", text[4]), ("more", text[5])]
    found = _oath_sites(text)
    for statement in numbered(block_of(text)):
        found.extend(sites_in(statement))
    return found


def sites_in(statement):
    """Those that stand right in a statement."""
    word = statement[0]
    if word == "if":
        return [("guard", statement[1])]
    if word == "while":
        return [("guard", statement[1])] + [("keeps", keep) for keep in statement[2]]
    if word in ("do", "use"):
        return [(word, place) for place in statement[-1]]
    if word in ("hold", "give"):
        return [(word, statement[1])]
    return [(word, part) for part in statement[2:]]


def called_in(text):
    """What a text does, uses and names, tuples (word, name), each once, as they first stand."""
    if text[0] == "notion":
        return list({call: True for _, thing in sites_of(text) for call in _notions(thing)})
    found = {call: True for _, thing in _oath_sites(text) for call in _notions(thing)}
    for statement in numbered(block_of(text)):
        if statement[0] in ("do", "use"):
            found[(statement[0], statement[-2])] = True
        for _, thing in sites_in(statement):
            for call in _notions(thing):
                found[call] = True
    return list(found)


def _oath_sites(text):
    """The sites ahead of the statements."""
    needs, gives, spends = oaths_of(text)
    return [("needs", need) for need in needs] + [("gives", give) for give in gives] + [("spends", spends)]


def _notions(thing):
    return [("notion", name) for name in notions_in(thing)]
