"""Writing signs and ending lines."""

from signscreen.going import to_left_edge
from signscreen.rolling import roll_up
from signscreen.state import at_least_one, edges
from signscreen.wiping import put_cells


def line_end(state):
    to_left_edge(state)
    if state.row == state.bottom:
        roll_up(state, state.top, 1)
    elif state.row < state.high - 1:
        state.row = state.row + 1


def put_sign(state, sign):
    if state.late and state.wrap:
        line_end(state)
    state.late = False
    if state.putting:
        put_cells(state, 1)
    state.picture[state.row][state.column] = (sign, state.ink)
    state.last = sign
    if state.column < edges(state)[3]:
        state.column = state.column + 1
    else:
        state.late = state.wrap


def again(state, many):
    if state.last is not None:
        for turn in range(at_least_one(many)):
            put_sign(state, state.last)
