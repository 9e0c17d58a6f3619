"""The parts of texts, and their statements."""


def letters_of_text(text):
    """A text's inputs, or a notion's letters."""
    return text[3] if text[0] == "notion" else text[2]


def own_of(text):
    """A text's own letters."""
    return text[3] if text[0] == "work" else ()


def oaths_of(text):
    """What a work or claim swears: its needs, its gives and its spends."""
    return text[-4], text[-3], text[-2]


def block_of(text):
    """A text's statements as they stand in it; of a notion none."""
    return () if text[0] == "notion" else text[-1]


def blocks_in(statement):
    """The blocks right within a statement."""
    if statement[0] == "if":
        return (statement[2], statement[3])
    return (statement[3],) if statement[0] == "while" else ()


def numbered(block):
    """A block's statements and those within them, in the order of their numbers."""
    found = []
    todo = list(block[::-1])
    while todo:
        statement = todo.pop()
        found.append(statement)
        for inner in blocks_in(statement)[::-1]:
            todo.extend(inner[::-1])
    return found


def writings_in(block):
    """What the statements of a block, and those within them, write: tuples (statement's word, own letter)."""
    return [statement[:2] for statement in numbered(block) if statement[0] in ("set", "put", "row", "do")]


def all_blocks(block):
    """A block and all blocks within it, outer ones ahead."""
    return [block] + [inner for statement in numbered(block) for inner in blocks_in(statement)]


def ways_of(block):
    """How many ways go through a block, and how many end in it."""
    through, ended = 1, 0
    for statement in block:
        more, end = _ways_of_statement(statement)
        through, ended = through * more, ended + through * end
    return through, ended


def ends(block):
    """Whether a block ends: its last statement is a give, or an if both of whose blocks end."""
    todo = [block]
    while todo:
        last = todo.pop()[-1:]
        if not last or last[0][0] not in ("give", "if"):
            return False
        todo.extend(blocks_in(last[0]))
    return True


def _ways_of_statement(statement):
    """How many ways go through a statement, and how many end in it."""
    if statement[0] == "give":
        return 0, 1
    if statement[0] == "if":
        one, other = ways_of(statement[2]), ways_of(statement[3])
        return one[0] + other[0], one[1] + other[1]
    if statement[0] == "while":
        return 1, sum(ways_of(statement[3]))
    return 1, 0
