"""Rolling rows up and down within the window, and putting and cutting lines by it."""

from signscreen.cells import copied
from signscreen.state import at_least_one, blank_of


def roll_rows(state, first, step):
    # Taken from a copy, as rows that were changed already would be taken else.
    old = copied(state.picture)
    for row in range(first, state.bottom + 1):
        source = row + step
        inside = first <= source <= state.bottom
        for column in range(state.left, state.right + 1):
            state.picture[row][column] = old[source][column] if inside else blank_of(state)


def roll_up(state, first, times):
    roll_rows(state, first, times)


def roll_down(state, first, times):
    roll_rows(state, first, -times)


def roll(state, letter, many):
    if letter == "R":
        roll_up(state, state.top, at_least_one(many))
    elif letter == "D":
        roll_down(state, state.top, at_least_one(many))
    state.late = False


def put_lines(state, many):
    if state.top <= state.row <= state.bottom:
        roll_down(state, state.row, at_least_one(many))
    state.late = False


def cut_lines(state, many):
    if state.top <= state.row <= state.bottom:
        roll_up(state, state.row, at_least_one(many))
    state.late = False
