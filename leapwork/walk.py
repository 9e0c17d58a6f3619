"""Runs that walk through the statements themselves."""

from leapwork.asked import has_room
from leapwork.books import text_in
from leapwork.claims import step_in_claim, use
from leapwork.inputs import ask_inputs, ask_ticks
from leapwork.rows import room_of, with_number
from leapwork.runs import Run, end_if_long, end_if_roomy


def walk(book, name, inputs=(), *, ticks=2000):
    """Run a work or claim: (end, ticks, passed); or NoName, NoInputs, NoTicks."""
    text = text_in(book, name)
    ask_inputs(text[2], inputs)
    ask_ticks(ticks)
    return Run(book, ticks, True).gone(text, inputs, _step)


def _step(run, frame):
    """Take the next step of the last frame."""
    if frame.text[0] == "claim":
        step_in_claim(run, frame)
    elif frame.at < 0:
        _again(run, frame, -frame.at)
    else:
        number = frame.at
        statement = frame.plan.statement(number)
        frame.at = frame.plan.behind(number)
        action = ACTIONS[statement[0]]
        action(run, frame, number, statement)


def _set(run, frame, number, statement):
    _ask_places(run, frame, number)
    worth = run.worth(statement[2], frame.table)
    end_if_long(worth)
    frame.table[statement[1]] = worth


def _put(run, frame, number, statement):
    _ask_places(run, frame, number)
    _, row, place, term = statement
    worth = run.worth(term, frame.table)
    end_if_long(worth)
    frame.table[row] = with_number(frame.table[row], run.worth(place, frame.table), worth)


def _row(run, frame, number, statement):
    _ask_places(run, frame, number)
    _, row, thing = statement
    if thing[0] == "row":
        frame.table[row] = frame.table[thing[1]]
        return
    run.ask(frame, (number, "room", 0), has_room(thing[1]), frame.table)
    size = run.worth(thing[1], frame.table)
    end_if_roomy(size)
    frame.table[row] = room_of(size)


def _do(run, frame, number, statement):
    _ask_places(run, frame, number)
    worths = [run.worth(place, frame.table) for place in statement[3]]
    run.do(frame, number, statement, worths)


def _if(run, frame, number, statement):
    _ask_places(run, frame, number)
    truth = run.worth(statement[1], frame.table)
    frame.step("then" if truth else "else", number)
    frame.at = frame.plan.inside(number)[0 if truth else 1]


def _while(run, frame, number, statement):
    run.ask_each(frame, number, "keeps", statement[2], frame.table)
    frame.come_to(number)
    _head(run, frame, number, statement)


def _again(run, frame, number):
    """Go on behind a round's last statement."""
    statement = frame.plan.statement(number)
    run.ask_each(frame, number, "again", statement[2], frame.table)
    _head(run, frame, number, statement)


def _head(run, frame, number, statement):
    """Go on at a while's head."""
    frame.head(number, frame.plan.written(number))
    _ask_places(run, frame, number)
    if run.worth(statement[1], frame.table):
        frame.step("in", number)
        run.round_of(frame, number)
        frame.at = frame.plan.inside(number)[0]
    else:
        frame.step("past", number)
        frame.at = frame.plan.behind(number)


def _hold(run, frame, number, statement):
    run.ask(frame, (number, "hold", 0), statement[1], frame.table)


def _use(run, frame, number, statement):
    use(run, frame, number, statement)


def _give(run, frame, number, statement):
    _ask_places(run, frame, number)
    worth = run.worth(statement[1], frame.table)
    end_if_long(worth)
    run.ask_gives(frame, number, worth)
    run.give(worth)


def _ask_places(run, frame, number):
    run.ask_each(frame, number, "place", frame.plan.places_asked(number), frame.table)


ACTIONS = {
    "set": _set,
    "put": _put,
    "row": _row,
    "do": _do,
    "if": _if,
    "while": _while,
    "hold": _hold,
    "use": _use,
    "give": _give,
}
