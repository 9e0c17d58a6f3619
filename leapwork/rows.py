"""Worths of rows: (size, places), places rising tuples (place, number), no number 0."""


def number_at(row, place):
    """The row's number at any place, 0 where none is written."""
    places = row[1]
    at = _how_many_ahead(places, place)
    if at < len(places) and places[at][0] == place:
        return places[at][1]
    return 0


def with_number(row, place, number):
    """The row with this number at this place; its size stays."""
    size, places = row
    at = _how_many_ahead(places, place)
    behind = at + 1 if at < len(places) and places[at][0] == place else at
    here = ((place, number),) if number != 0 else ()
    return (size, places[:at] + here + places[behind:])


def room_of(size):
    """A row of noughts of this size, or of 0 where it is below 0."""
    return (max(0, size), ())


def _how_many_ahead(places, place):
    """How many of the rising places are ahead of this one."""
    low, high = 0, len(places)
    while low < high:
        middle = (low + high) // 2
        if places[middle][0] < place:
            low = middle + 1
        else:
            high = middle
    return low
