"""Claims under way in a run: their statements, and the uses of other claims."""

from leapwork.books import fitting
from leapwork.flow import END
from leapwork.frames import table_of
from leapwork.runs import Ended

_MOST_CLAIMS = 20
_MOST_USES = 60


def step_in_claim(run, frame):
    """Take the next step of a claim."""
    if frame.at == END:
        _end(run, frame)
        return
    number = frame.at
    statement = frame.plan.statement(number)
    frame.at = frame.plan.behind(number)
    if statement[0] == "if":
        _fork(run, frame, number, statement)
    elif statement[0] == "hold":
        run.ask(frame, (number, "hold", 0), statement[1], frame.table)
    else:
        use(run, frame, number, statement)


def use(run, frame, number, statement):
    """Use a claim in a work or a claim, or pass the use over."""
    here = (number, "use", 0)
    text = fitting(run.book, frame.text, statement)
    worths = [run.worth(place, frame.table) for place in statement[2]]
    if text is None or None in worths:
        run.pass_over(frame.name, here)
        return
    table = table_of(text, worths)
    run.ask_needs(frame, number, text, table)
    if frame.text[0] == "claim":
        # A run has ticks for uses where a claim was asked for: then no work is under way.
        if run.frames[0].text[0] == "claim":
            run.tick()
        run.pay_for(frame, number, text, table)
    if len([each for each in run.frames if each.text[0] == "claim"]) == _MOST_CLAIMS:
        run.pass_over(frame.name, here)
    elif _are_enough(run, frame):
        _end_outermost(run)
    else:
        run.begin(text, worths, number)


def _are_enough(run, frame):
    """Count a use that is begun; whether these are more than may be within the outermost one."""
    run.begun = 0 if frame.used is None else run.begun + 1
    return run.begun > _MOST_USES


def _end_outermost(run):
    """End all that is under way within the outermost use, and pass this one over."""
    while run.frames[-1].used is not None:
        number = run.frames.pop().used
    run.pass_over(run.frames[-1].name, (number, "use", 0))


def _fork(run, frame, number, statement):
    """Go on at an if, where its guard has a worth."""
    truth = run.worth(statement[1], frame.table)
    if truth is not None:
        frame.step("then" if truth else "else", number)
        frame.at = frame.plan.inside(number)[0 if truth else 1]
    elif frame.used is None:
        raise Ended(("lost", number))
    else:
        run.frames.pop()
        run.pass_over(run.frames[-1].name, (frame.used, "use", 0))


def _end(run, frame):
    """End a claim, where its gives are so."""
    run.ask_gives(frame, frame.plan.many + 1, None)
    run.end_frame(None)
