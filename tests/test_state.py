"""state.py: promises [7] and [8], and promise [1] as far as it speaks of states."""

import unittest

from signscreen.errors import BadSize, ScreenError
from signscreen.state import State, edges
from tests.states import StateCase, all_places, all_windows, fields_of, made, windowed

SIZES = ((1, 1), (1, 12), (24, 1), (24, 12), (2, 3), (4, 4), (5, 2), (8, 1), (9, 9), (13, 7))
NO_WIDTHS = (0, -1, 25, 26, 1000, True, False, None, "", "5", 5.0, [5], (5,), {5: 5}, {5}, b"5", object(), int, len)
NO_HEIGHTS = (0, -1, 13, 14, 24, 1000, True, False, None, "", "5", 5.0, [5], (5,), {5: 5}, {5}, b"5", object(), int)


class FirstFieldsTest(StateCase):
    def test_each_field_at_first(self):
        for wide, high in SIZES:
            state = State(wide, high)
            expected = {
                "wide": wide,
                "high": high,
                "picture": [[(" ", 0)] * wide for row in range(high)],
                "row": 0,
                "column": 0,
                "late": False,
                "ink": 0,
                "wrap": True,
                "putting": False,
                "home": False,
                "top": 0,
                "bottom": high - 1,
                "left": 0,
                "right": wide - 1,
                "stops": {column: True for column in range(wide) if column % 4 == 0 and column > 0},
                "kept": [],
                "last": None,
            }
            self.assertEqual(fields_of(state), expected, (wide, high))
            self.check_form(state)

    def test_all_sizes_are_taken(self):
        for wide in range(1, 25):
            for high in range(1, 13):
                state = State(wide, high)
                self.assertEqual((state.wide, state.high), (wide, high))
                self.assertEqual((len(state.picture[0]), len(state.picture)), (wide, high))
                self.assertEqual((state.right, state.bottom), (wide - 1, high - 1))

    def test_the_stops_by_name(self):
        for wide, stops in ((1, []), (4, []), (5, [4]), (8, [4]), (9, [4, 8]), (24, [4, 8, 12, 16, 20])):
            self.assertEqual(State(wide, 2).stops, dict.fromkeys(stops, True), wide)

    def test_what_is_no_size_is_refused(self):
        for wide in NO_WIDTHS:
            for high in (1, 5, 12):
                self.assertRaises(BadSize, State, wide, high)
        for high in NO_HEIGHTS:
            for wide in (1, 5, 24):
                self.assertRaises(BadSize, State, wide, high)
        for wide in NO_WIDTHS:
            for high in NO_HEIGHTS:
                self.assertRaises(BadSize, State, wide, high)

    def test_the_refusal_is_a_screen_error(self):
        self.assertRaises(ScreenError, State, 0, 0)
        self.assertRaises(ValueError, State, 25, 13)

    def test_two_states_do_not_disturb_one_another(self):
        one = State(9, 3)
        other = State(9, 3)
        before = fields_of(other)
        one.picture[1][2] = ("a", 3)
        one.stops[5] = True
        one.kept.append(1)
        one.row = 2
        one.late = True
        one.last = "a"
        self.assertEqual(fields_of(other), before)
        self.assertEqual(fields_of(State(9, 3)), before)

    def test_a_cell_that_is_exchanged_is_that_one_alone(self):
        state = State(3, 2)
        state.picture[0][1] = ("x", 9)
        self.assertEqual(state.picture, [[(" ", 0), ("x", 9), (" ", 0)], [(" ", 0)] * 3])


class EdgesTest(StateCase):
    def check(self, window, place, expected):
        state = windowed(6, 5, window, row=place[0], column=place[1], late=True, home=place[0] == 2)
        before = fields_of(state)
        told = edges(state)
        self.assertEqual(told, expected, (window, place))
        self.assertIs(type(told), tuple)
        for number in told:
            self.assertIs(type(number), int)
        self.assertEqual(fields_of(state), before)

    def test_the_whole_picture_at_first(self):
        for wide, high in SIZES:
            self.assertEqual(edges(State(wide, high)), (0, high - 1, 0, wide - 1))
            for row, column in all_places(wide, high):
                self.assertEqual(edges(made(wide, high, row=row, column=column)), (0, high - 1, 0, wide - 1))

    def test_within_the_window_and_at_its_edges(self):
        for row in (1, 2, 3):
            for column in (2, 3, 4):
                self.check((1, 3, 2, 4), (row, column), (1, 3, 2, 4))

    def test_outside_of_one_side(self):
        self.check((1, 3, 2, 4), (0, 3), (0, 3, 2, 4))
        self.check((1, 3, 2, 4), (4, 3), (1, 4, 2, 4))
        self.check((1, 3, 2, 4), (2, 1), (1, 3, 0, 4))
        self.check((1, 3, 2, 4), (2, 5), (1, 3, 2, 5))

    def test_outside_of_two_sides(self):
        self.check((1, 3, 2, 4), (0, 0), (0, 3, 0, 4))
        self.check((1, 3, 2, 4), (0, 5), (0, 3, 2, 5))
        self.check((1, 3, 2, 4), (4, 1), (1, 4, 0, 4))
        self.check((1, 3, 2, 4), (4, 5), (1, 4, 2, 5))

    def test_a_window_of_one_cell(self):
        self.check((2, 2, 3, 3), (2, 3), (2, 2, 3, 3))
        self.check((2, 2, 3, 3), (1, 2), (0, 2, 0, 3))
        self.check((2, 2, 3, 3), (3, 4), (2, 4, 3, 5))

    def test_each_window_and_place_of_a_picture(self):
        for window in all_windows(4, 3):
            top, bottom, left, right = window
            for row, column in all_places(4, 3):
                state = windowed(4, 3, window, row=row, column=column)
                rows = {"above": (0, bottom), "in": (top, bottom), "below": (top, 2)}
                columns = {"above": (0, right), "in": (left, right), "below": (left, 3)}
                expected = rows[side(row, top, bottom)] + columns[side(column, left, right)]
                self.assertEqual(edges(state), expected, (window, row, column))


def side(number, first, last):
    if number < first:
        return "above"
    return "below" if number > last else "in"


if __name__ == "__main__":
    unittest.main()
