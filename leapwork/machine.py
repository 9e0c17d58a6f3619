"""Runs by code."""

from leapwork.blocks import block_of, numbered, oaths_of
from leapwork.books import text_in
from leapwork.claims import step_in_claim, use
from leapwork.code import compiled
from leapwork.errors import NoName
from leapwork.flow import Flow
from leapwork.inputs import ask_inputs, ask_ticks
from leapwork.rows import number_at, room_of, with_number
from leapwork.runs import Run, end_if_long, end_if_roomy


class Code:
    """A work's rows, and the statements that they lead back to."""

    def __init__(self, text, looked):
        self.first = 0
        self.rows = compiled(text, looked=looked)
        self._statements = numbered(block_of(text))

    def statement(self, number):
        """The statement of this number."""
        return self._statements[number - 1]


class CodeRun(Run):
    """A run in which works go by their code; claims have none."""

    def plan_of(self, text):
        """What the run goes by in a text."""
        return Flow(text) if text[0] == "claim" else Code(text, self.looks)

    def enter(self, frame):
        """A work's begin is a row of its own."""
        if frame.text[0] == "claim":
            self.ask_spends(frame)


def run_code(book, name, inputs=(), *, ticks=2000, looked=True):
    """Run a work by its code, looked-at or bare: (end, ticks, passed); or NoName, NoInputs, NoTicks."""
    text = text_in(book, name)
    if text[0] == "claim" and not looked:
        raise NoName(name)
    ask_inputs(text[2], inputs)
    ask_ticks(ticks)
    end, begun, passed = CodeRun(book, ticks, looked).gone(text, inputs, _step)
    # Code has no ways, so neither does a break in it.
    return (end[:3] if end[0] == "break" else end), begun, passed


def _step(run, frame):
    """Take the next step of the last frame."""
    if frame.text[0] == "claim":
        step_in_claim(run, frame)
        return
    row = frame.plan.rows[frame.at]
    frame.at += 1
    if row[0] in VALUES:
        value = VALUES[row[0]]
        frame.stack.append(value(frame, row))
    else:
        action = ACTIONS[row[0]]
        action(run, frame, row)


def _two(frame):
    """The last two worths on the stack, taken from it."""
    last = frame.stack.pop()
    return frame.stack.pop(), last


def _num(frame, row):
    return row[1]


def _letter(frame, row):
    return frame.table[row[1]]


def _add(frame, row):
    one, other = _two(frame)
    return one + other


def _mul(frame, row):
    return row[1] * frame.stack.pop()


def _read(frame, row):
    return number_at(frame.table[row[1]], frame.stack.pop())


def _size(frame, row):
    return frame.table[row[1]][0]


def _div(frame, row):
    return frame.stack.pop() // row[1]


def _mod(frame, row):
    return frame.stack.pop() % row[1]


def _le(frame, row):
    one, other = _two(frame)
    return 1 if one <= other else 0


def _eq(frame, row):
    one, other = _two(frame)
    return 1 if one == other else 0


def _not(frame, row):
    return 1 - frame.stack.pop()


def _and(frame, row):
    one, other = _two(frame)
    return one * other


def _or(frame, row):
    one, other = _two(frame)
    return max(one, other)


def _begin(run, frame, row):
    run.ask_spends(frame)


def _place(run, frame, row):
    _ask_place(run, frame, row, frame.stack[-1])


def _edge(run, frame, row):
    _ask_place(run, frame, row, frame.stack[-2])


def _ask_place(run, frame, row, place):
    """Ask whether a place lies within a row's ends."""
    _, number, part, letter = row
    if not 0 <= place < frame.table[letter][0]:
        run.end_at(frame, (number, "place", part), None)


def _look(run, frame, row):
    _, number, word, part = row
    statement = frame.plan.statement(number)
    if word == "room":
        if frame.stack[-1] < 0:
            run.end_at(frame, (number, word, part), None)
    elif word == "gives":
        end_if_long(frame.stack[-1])
        saying = oaths_of(frame.text)[1][part]
        run.ask(frame, (number, word, part), saying, {**frame.table, "given": frame.stack[-1]})
    else:
        saying = statement[1] if word == "hold" else statement[2][part]
        run.ask(frame, (number, word, part), saying, frame.table)


def _set(run, frame, row):
    end_if_long(frame.stack[-1])
    frame.table[row[1]] = frame.stack.pop()


def _put(run, frame, row):
    place, worth = _two(frame)
    end_if_long(worth)
    frame.table[row[1]] = with_number(frame.table[row[1]], place, worth)


def _room(run, frame, row):
    end_if_roomy(frame.stack[-1])
    frame.stack.append(room_of(frame.stack.pop()))


def _do(run, frame, row):
    _, number, _, many, _ = row
    worths = [frame.stack.pop() for _ in range(many)][::-1]
    run.do(frame, number, frame.plan.statement(number), worths)


def _use(run, frame, row):
    use(run, frame, row[1], frame.plan.statement(row[1]))


def _unless(run, frame, row):
    if frame.stack.pop() == 0:
        frame.at = row[1]


def _jump(run, frame, row):
    frame.at = row[1]


def _round(run, frame, row):
    run.round_of(frame, row[1])


def _give(run, frame, row):
    end_if_long(frame.stack[-1])
    run.give(frame.stack.pop())


# Rows that lay a worth on the stack, and all others.
VALUES = {
    "num": _num,
    "name": _letter,
    "row": _letter,
    "add": _add,
    "mul": _mul,
    "read": _read,
    "size": _size,
    "div": _div,
    "mod": _mod,
    "le": _le,
    "eq": _eq,
    "not": _not,
    "and": _and,
    "or": _or,
}
ACTIONS = {
    "begin": _begin,
    "place": _place,
    "edge": _edge,
    "look": _look,
    "set": _set,
    "put": _put,
    "room": _room,
    "do": _do,
    "use": _use,
    "unless": _unless,
    "jump": _jump,
    "round": _round,
    "give": _give,
}
