"""Where the cursor goes, and the tab stops that it goes by."""

from signscreen.state import at_least_one, edges


def go(state, letter, many):
    times = at_least_one(many)
    edge = edges(state)
    if letter == "u":
        state.row = max(state.row - times, edge[0])
    elif letter == "d":
        state.row = min(state.row + times, edge[1])
    elif letter == "l":
        state.column = max(state.column - times, edge[2])
    elif letter == "r":
        state.column = min(state.column + times, edge[3])
    state.late = False


def to_left_edge(state):
    state.column = edges(state)[2]
    state.late = False


def counted(number, first, last):
    return min(first + at_least_one(number) - 1, last)


def to_place(state, row, column):
    if state.home:
        state.row = counted(row, state.top, state.bottom)
        state.column = counted(column, state.left, state.right)
    else:
        state.row = counted(row, 0, state.high - 1)
        state.column = counted(column, 0, state.wide - 1)
    state.late = False


def to_home(state):
    to_place(state, None, None)


def on_tab(state, many):
    # The edge is the same at each step, as the cursor does not pass it.
    right = edges(state)[3]
    for step in range(at_least_one(many)):
        ahead = [column for column in state.stops if state.column < column < right]
        state.column = min(ahead, default=right)
    state.late = False


def back_tab(state, many):
    left = edges(state)[2]
    for step in range(at_least_one(many)):
        behind = [column for column in state.stops if left < column < state.column]
        state.column = max(behind, default=left)
    state.late = False


def set_stop(state):
    state.stops[state.column] = True


def take_stop(state):
    state.stops.pop(state.column, None)


def take_stops(state):
    state.stops.clear()
