"""What the cursor is set to: its window, its ink, its modes."""

from signscreen.going import to_home
from signscreen.inks import turned_marks, with_back, with_fore, with_mark, without_mark
from signscreen.state import at_least_one


def span(first, last, size):
    begin = at_least_one(first)
    end = min(last, size) if last else size
    return None if begin > end else (begin - 1, end - 1)


def set_rows(state, first, last):
    rows = span(first, last, state.high)
    if rows is not None:
        state.top = rows[0]
        state.bottom = rows[1]
        to_home(state)


def set_columns(state, first, last):
    columns = span(first, last, state.wide)
    if columns is not None:
        state.left = columns[0]
        state.right = columns[1]
        to_home(state)


def dyed(ink, number):
    if number is None or number == 0:
        return 0
    if 1 <= number <= 3:
        return with_mark(ink, number - 1)
    if 4 <= number <= 6:
        return without_mark(ink, number - 4)
    if number == 7:
        return turned_marks(ink)
    if 10 <= number <= 17:
        return with_fore(ink, number - 10)
    if 20 <= number <= 27:
        return with_back(ink, number - 20)
    return ink


def dye(state, numbers):
    for number in numbers:
        state.ink = dyed(state.ink, number)


def turn_modes(state, numbers, on):
    turned_on = on is True
    for number in numbers:
        if number == 1:
            state.wrap = turned_on
        elif number == 2:
            state.putting = turned_on
        elif number == 3:
            state.home = turned_on
    # Behind all of them, as the last one told of home says where home is.
    if 3 in numbers:
        to_home(state)
