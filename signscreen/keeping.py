"""Keeping and taking back, beginning anew, and answering what is asked of a state."""

from signscreen.inks import ink_text
from signscreen.wiping import wipe

MOST_KEPT = 8


def keep(state):
    state.kept.append((state.row, state.column, state.late, state.ink, state.wrap, state.putting, state.home))
    if len(state.kept) > MOST_KEPT:
        state.kept.pop(0)


def take_back(state):
    if state.kept:
        then = state.kept.pop()
        state.row = then[0]
        state.column = then[1]
        state.late = then[2]
        state.ink = then[3]
        state.wrap = then[4]
        state.putting = then[5]
        state.home = then[6]


def begin_anew(state):
    # First, as wiping takes the ink that the state has.
    state.begin()
    wipe(state, 5)


def told_place(state):
    row = state.row + 1
    column = state.column + 1
    if state.home:
        row = row - state.top
        column = column - state.left
    return f"{row};{column}"


def told_size(state):
    wide = state.wide
    high = state.high
    return f"{wide}x{high}"


def asked(state, numbers):
    answers = []
    for number in numbers:
        if number is None or number == 0 or number == 1:
            answers.append(told_place(state))
        elif number == 2:
            answers.append(told_size(state))
        elif number == 3:
            answers.append(ink_text(state.ink))
    return answers
