"""States for the tests, and what is asked of everything that changes one."""

import copy
import unittest

from signscreen.state import State

NUMBERS = ("wide", "high", "row", "column", "ink", "top", "bottom", "left", "right")
TRUTHS = ("late", "wrap", "putting", "home")
FIELDS = NUMBERS + TRUTHS + ("picture", "stops", "kept", "last")
SIGNS = [chr(number) for number in range(33, 127) if number != 37]


def cell_at(row, column):
    """A cell that is like no other one of the same picture, in its ink at least."""
    return (SIGNS[(row * 31 + column) % len(SIGNS)], (row * 24 + column + 100) % 512)


def full_picture(wide, high):
    return [[cell_at(row, column) for column in range(wide)] for row in range(high)]


def changed_picture(wide, high, cells):
    """A full picture but for these: a dict from places to cells, or to the places that the cells stood at."""
    picture = full_picture(wide, high)
    for (row, column), cell in cells.items():
        picture[row][column] = cell if isinstance(cell[0], str) else cell_at(cell[0], cell[1])
    return picture


def made(wide, high, **fields):
    """A state with a full picture, and with these fields."""
    state = State(wide, high)
    for row in range(high):
        for column in range(wide):
            state.picture[row][column] = cell_at(row, column)
    for name, value in fields.items():
        setattr(state, name, value)
    return state


def windowed(wide, high, window, **fields):
    """The window as edges tells them: top, bottom, left, right."""
    sides = dict(zip(("top", "bottom", "left", "right"), window))
    return made(wide, high, **sides, **fields)


def fields_of(state):
    return {name: copy.deepcopy(getattr(state, name)) for name in FIELDS}


def all_windows(wide, high):
    rows = [(top, bottom) for top in range(high) for bottom in range(top, high)]
    columns = [(left, right) for left in range(wide) for right in range(left, wide)]
    return [row + column for row in rows for column in columns]


def all_places(wide, high):
    return [(row, column) for row in range(high) for column in range(wide)]


class StateCase(unittest.TestCase):
    def check_form(self, state):
        for name in NUMBERS:
            self.assertIs(type(getattr(state, name)), int, name)
        for name in TRUTHS:
            self.assertIs(type(getattr(state, name)), bool, name)
        self.assertIs(type(state.picture), list)
        for row in state.picture:
            self.assertIs(type(row), list)
        # Rows that are one list would change together when a cell is exchanged.
        self.assertEqual(len({id(row) for row in state.picture}), state.high)
        self.assertIs(type(state.stops), dict)
        for column, value in state.stops.items():
            self.assertIs(type(column), int)
            self.assertIs(value, True)
        self.assertIs(type(state.kept), list)

    def check_done(self, deed, state, *given, **changes):
        """deed(state, ..) tells None and changes these fields of the state, no other and no other state."""
        bystander = made(state.wide, state.high, late=True)
        expected = {"state": fields_of(state), "given": copy.deepcopy(given), "bystander": fields_of(bystander)}
        expected["state"].update(copy.deepcopy(changes))
        words = (deed.__name__, given, {name: value for name, value in fields_of(state).items() if name != "picture"})
        self.assertIsNone(deed(state, *given), words)
        found = fields_of(state)
        for name in FIELDS:
            self.assertEqual(found[name], expected["state"][name], (name, words))
        self.check_form(state)
        self.assertEqual(given, expected["given"], words)
        self.assertEqual(fields_of(bystander), expected["bystander"], words)
