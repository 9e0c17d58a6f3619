"""What a text of a right form may break besides: names, kinds, where what stands, ends, sizes.

Each of these is asked only of what breaks none of those ahead of it.
"""

from leapwork.blocks import all_blocks, block_of, blocks_in, ends, letters_of_text, numbered, oaths_of, own_of
from leapwork.blocks import ways_of, writings_in
from leapwork.names import KEPT, is_name
from leapwork.notions import has_itself_as_told, places_fit
from leapwork.sites import called_in, sites_of
from leapwork.sizes import has_short_numbers, is_small
from leapwork.terms import kind_of, letters_of, notion_terms_in, things_in

_MOST_INPUTS = 4
_MOST_OWN = 6
_MOST_ROWS = 4
_MOST_SAYINGS = 4
_MOST_STATEMENTS = 40
_MOST_WITHIN = 4
_MOST_TUPLES = 60
_MOST_TUPLES_WITHIN = 8
_MOST_FLOOR = 9
_MOST_WAYS = 24

# Where nothing but numbers' terms over letters, their rows' reads and sizes stands in a work.
_BARE = ("guard", "set", "put", "row", "do", "give")
_CLAIMS_STATEMENTS = ("if", "hold", "use")


def has_good_names(text):
    """Whether names are NAMEs, letters unlike, and those that stand in it the text's own or kept ones."""
    letters = [letter for letter, _ in letters_of_text(text) + own_of(text)]
    names = [text[1]] + letters + [name for _, name in called_in(text)]
    if not all([is_name(name) for name in names]) or len({letter: True for letter in letters}) < len(letters):
        return False
    standing = [letter for _, thing in sites_of(text) for letter, _ in letters_of(thing)]
    written = [letter for _, letter in writings_in(block_of(text))]
    return all([letter in KEPT or letter in letters for letter in standing + written])


def has_good_kinds(text):
    """Whether numbers stand where numbers, and rows where rows are due."""
    kinds = {letter: kind for letter, kind in letters_of_text(text) + own_of(text)}
    kinds["left"] = kinds["own"] = "number"
    if text[0] == "work":
        kinds["given"] = text[4]
    standing = [letter for _, thing in sites_of(text) for letter in letters_of(thing)]
    for word, letter in writings_in(block_of(text)):
        if word != "do":
            standing.append((letter, "number" if word == "set" else "row"))
    if any([kinds.get(letter, kind) != kind for letter, kind in standing]):
        return False
    if text[0] == "work":
        return all([kind_of(thing) == text[4] for where, thing in sites_of(text) if where == "give"])
    return text[0] == "claim" or _has_good_places(text)


def has_all_where_it_may_be(text):
    """Whether letters, notions, alls, withs and rooms stand where they may."""
    if text[0] == "notion" and not has_itself_as_told(text):
        return False
    own = [letter for letter, _ in own_of(text)]
    if not all([letter in own for _, letter in writings_in(block_of(text))]):
        return False
    return all([_may_stand(text, where, thing) for where, thing in sites_of(text)])


def has_good_ends(text):
    """Whether nothing stands behind an end, a work's statements end, and a claim has but what it may."""
    block = block_of(text)
    if text[0] == "claim":
        return all([statement[0] in _CLAIMS_STATEMENTS for statement in numbered(block)])
    if any([ends((statement,)) for inner in all_blocks(block) for statement in inner[:-1]]):
        return False
    return text[0] == "notion" or ends(block)


def has_good_sizes(text):
    """Whether nothing is too many or too great."""
    things = [thing for _, thing in sites_of(text)]
    if not all([is_small([thing], _MOST_TUPLES, _MOST_TUPLES_WITHIN) for thing in things]):
        return False
    if not has_short_numbers(things) or not _has_few_letters(text):
        return False
    if text[0] == "notion":
        return 0 <= text[2] <= _MOST_FLOOR
    needs, gives, _ = oaths_of(text)
    statements = numbered(block_of(text))
    keeps = [statement[2] for statement in statements if statement[0] == "while"]
    if any([len(sayings) > _MOST_SAYINGS for sayings in [needs, gives] + keeps]):
        return False
    if len(statements) > _MOST_STATEMENTS or not _is_shallow(block_of(text)):
        return False
    return sum(ways_of(block_of(text))) <= _MOST_WAYS


def _has_good_places(notion):
    """Whether a notion's last letter is a number, and itself in more has places of its kinds."""
    letters = notion[3]
    if not letters or letters[-1][1] != "number":
        return False
    own = [term for term in notion_terms_in(notion[5]) if term[1] == notion[1]]
    return all([places_fit(term[2], letters) for term in own])


def _may_stand(text, where, thing):
    """Whether a thing may stand there, with all that stands within it."""
    letters = _letters_at(text, where)
    bounds = [thing[1], thing[2]] if thing[0] == "all" else []
    if not all([letter in letters for part in [thing] + bounds for letter, _ in letters_of(part)]):
        return False
    if where == "guard" and thing[0] == "all":
        return False
    if where == "give" and thing[0] in ("with", "room"):
        return False
    if text[0] != "work" or where not in _BARE:
        return True
    inner = thing[1] if where == "row" and thing[0] == "room" else thing
    return all([part[0] not in ("notion", "with", "room") for part in things_in(inner)])


def _letters_at(text, where):
    """The letters that may stand there."""
    letters = [letter for letter, _ in letters_of_text(text)]
    if where == "gives" and text[0] == "work":
        return letters + ["given"]
    if where in ("needs", "gives", "spends"):
        return letters
    letters = letters + [letter for letter, _ in own_of(text)]
    return letters + ["left"] if where in ("hold", "keeps") else letters


def _has_few_letters(text):
    """Whether a text has no more letters, and no more of them rows, than it may."""
    inputs, own = letters_of_text(text), own_of(text)
    if len(inputs) > _MOST_INPUTS or len(own) > _MOST_OWN:
        return False
    return len([letter for letter, kind in inputs + own if kind == "row"]) <= _MOST_ROWS


def _is_shallow(block):
    """Whether no more ifs and whiles stand within one another than may."""
    todo = [(statement, 1) for statement in block]
    while todo:
        statement, deep = todo.pop()
        if statement[0] in ("if", "while") and deep > _MOST_WITHIN:
            return False
        todo.extend([(each, deep + 1) for inner in blocks_in(statement) for each in inner])
    return True
