"""Putting, cutting and wiping cells at the cursor."""

from signscreen.state import at_least_one, blank_of, edges


def move_cells(state, step):
    right = edges(state)[3]
    line = state.picture[state.row]
    # Taken from a copy, as cells that were changed already would be taken else.
    old = list(line)
    for column in range(state.column, right + 1):
        source = column + step
        inside = state.column <= source <= right
        line[column] = old[source] if inside else blank_of(state)
    state.late = False


def put_cells(state, many):
    move_cells(state, -at_least_one(many))


def cut_cells(state, many):
    move_cells(state, at_least_one(many))


def wipe_places(state, first, behind):
    # Places are counted row by row through the picture, so a stretch may go on in the next row.
    for place in range(first, behind):
        state.picture[place // state.wide][place % state.wide] = blank_of(state)
    state.late = False


def wipe_cells(state, many):
    row_begin = state.row * state.wide
    behind = min(state.column + at_least_one(many), state.wide)
    wipe_places(state, row_begin + state.column, row_begin + behind)


def wipe(state, way):
    row_begin = state.row * state.wide
    row_end = row_begin + state.wide
    cursor = row_begin + state.column
    picture_end = state.wide * state.high
    spans = {
        0: (cursor, row_end),
        1: (row_begin, cursor + 1),
        2: (row_begin, row_end),
        3: (cursor, picture_end),
        4: (0, cursor + 1),
        5: (0, picture_end),
    }
    span = spans.get(0 if way is None else way, (0, 0))
    wipe_places(state, span[0], span[1])
