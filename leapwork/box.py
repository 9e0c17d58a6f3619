"""The box: inputs of texts by their numbers, and the first of them that break."""

from leapwork.books import text_in
from leapwork.errors import NoInputs
from leapwork.inputs import are_worths
from leapwork.names import is_whole
from leapwork.walk import walk


def dealt(k, many):
    """The numbers of so many holders to whom k is dealt."""
    figures = f"{k:b}"[::-1]
    return [_number_of_figures(figures[holder::many]) for holder in range(many)]


def inputs_at(letters, k):
    """The inputs of this number; or NoInputs."""
    if not is_whole(k) or k < 0 or (not letters and k != 0):
        raise NoInputs("no inputs have this number")
    numbers = dealt(k, len(letters))
    return tuple([_worth_at(kind, number) for (_, kind), number in zip(letters, numbers)])


def number_of(letters, inputs):
    """The number of these inputs; or NoInputs."""
    if not are_worths(inputs, letters) or not all([is_whole(worth) or _is_within(worth) for worth in inputs]):
        raise NoInputs("these inputs have no number")
    return _gathered([_number_of_worth(worth) for worth in inputs])


def broken(book, name, *, first=12, ticks=40):
    """The first inputs, by their number, at which a text breaks itself, and how: (k, end), or None; or NoName."""
    letters = text_in(book, name)[2]
    for k in range(first if letters else min(first, 1)):
        end, _, passed = walk(book, name, inputs_at(letters, k), ticks=ticks)
        if end[0] == "break" and end[1] == name and not passed:
            return k, end
    return None


def _number_of_figures(figures):
    """The number that figures by two make, the last one first."""
    return int("0" + figures[::-1], 2)


def _gathered(numbers):
    """The number of which these are dealt."""
    figures = [f"{number:b}"[::-1] for number in numbers]
    most = max([len(each) for each in figures], default=0)
    rounds = ["".join([each[at:at + 1] or "0" for each in figures]) for at in range(most)]
    return _number_of_figures("".join(rounds))


def _worth_at(kind, number):
    """The worth of a letter that has this number."""
    if kind == "number":
        return _whole_at(number)
    # By two it ends in a one and noughts behind it, as many in all as the size; 0 has no one, and size 0.
    size = (number & -number).bit_length()
    numbers = [_whole_at(each) for each in dealt(number >> size, size)]
    return size, tuple([(place, each) for place, each in enumerate(numbers) if each != 0])


def _whole_at(number):
    """The whole number that has this number."""
    return (number + 1) // 2 if number % 2 == 1 else -(number // 2)


def _number_of_worth(worth):
    """The number that a letter with this worth has."""
    if is_whole(worth):
        return _number_of_whole(worth)
    size, places = worth
    if size == 0:
        return 0
    numbers = [0] * size
    for place, number in places:
        numbers[place] = _number_of_whole(number)
    return (2 * _gathered(numbers) + 1) << (size - 1)


def _number_of_whole(whole):
    """The number of a whole number."""
    return 2 * whole - 1 if whole > 0 else -2 * whole


def _is_within(row):
    """Whether a row has no number beyond its ends."""
    size, places = row
    return all([0 <= place < size for place, _ in places])
