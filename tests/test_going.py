"""going.py: promises [8], [9] and [10], and promise [1] as far as it speaks of going."""

import unittest

from signscreen.going import (
    back_tab,
    go,
    on_tab,
    set_stop,
    take_stop,
    take_stops,
    to_home,
    to_left_edge,
    to_place,
)
from signscreen.state import State, edges
from tests.states import StateCase, all_places, all_windows, fields_of, made, windowed

# Two rows and two columns on each side, within a picture of 9 by 7.
WINDOW = (2, 4, 3, 6)


class GoTest(StateCase):
    def check(self, letter, many, place, reached, window=WINDOW, **fields):
        for late in (False, True):
            state = windowed(9, 7, window, row=place[0], column=place[1], late=late, **fields)
            self.check_done(go, state, letter, many, row=reached[0], column=reached[1], late=False)

    def test_one_cell_by_none_and_nought_and_one(self):
        for many in (None, 0, 1):
            self.check("u", many, (3, 5), (2, 5))
            self.check("d", many, (3, 5), (4, 5))
            self.check("l", many, (3, 5), (3, 4))
            self.check("r", many, (3, 5), (3, 6))

    def test_several_cells(self):
        whole = (0, 6, 0, 8)
        for many in (2, 3):
            self.check("u", many, (3, 4), (3 - many, 4), whole)
            self.check("d", many, (3, 4), (3 + many, 4), whole)
            self.check("l", many, (3, 4), (3, 4 - many), whole)
            self.check("r", many, (3, 4), (3, 4 + many), whole)

    def test_to_the_pictures_edge_at_the_most(self):
        whole = (0, 6, 0, 8)
        for many in (7, 9, 10, 100, 999):
            self.check("u", many, (3, 4), (0, 4), whole)
            self.check("d", many, (3, 4), (6, 4), whole)
            self.check("l", many, (3, 4), (3, 0), whole)
            self.check("r", many, (3, 4), (3, 8), whole)

    def test_to_the_windows_edge_at_the_most(self):
        for many in (3, 4, 999):
            self.check("u", many, (3, 5), (2, 5))
            self.check("d", many, (3, 5), (4, 5))
            self.check("l", many, (3, 5), (3, 3))
            self.check("r", many, (3, 5), (3, 6))

    def test_at_the_edge_it_stays_and_late_is_off(self):
        for many in (None, 0, 1, 5, 999):
            self.check("u", many, (2, 5), (2, 5))
            self.check("d", many, (4, 5), (4, 5))
            self.check("l", many, (3, 3), (3, 3))
            self.check("r", many, (3, 6), (3, 6))
            self.check("u", many, (0, 0), (0, 0))
            self.check("l", many, (0, 0), (0, 0))
            self.check("d", many, (6, 8), (6, 8))
            self.check("r", many, (6, 8), (6, 8))

    def test_outside_towards_the_window_it_goes_on_within(self):
        self.check("d", 2, (0, 0), (2, 0))
        self.check("d", 999, (0, 0), (4, 0))
        self.check("u", 2, (6, 8), (4, 8))
        self.check("u", 999, (6, 8), (2, 8))
        self.check("r", 4, (0, 0), (0, 4))
        self.check("r", 999, (0, 0), (0, 6))
        self.check("l", 2, (6, 8), (6, 6))
        self.check("l", 999, (6, 8), (6, 3))

    def test_outside_away_from_the_window_it_goes_to_the_pictures_edge(self):
        self.check("u", 999, (1, 5), (0, 5))
        self.check("d", 999, (5, 5), (6, 5))
        self.check("l", 999, (3, 2), (3, 0))
        self.check("r", 999, (3, 7), (3, 8))

    def test_modes_and_ink_make_no_difference(self):
        fields = {"wrap": False, "putting": True, "home": True, "ink": 77, "last": "q"}
        self.check("u", 999, (3, 5), (2, 5), **fields)
        self.check("d", 999, (5, 5), (6, 5), **fields)
        self.check("l", 2, (3, 2), (3, 0), **fields)
        self.check("r", None, (3, 2), (3, 3), **fields)

    def test_a_picture_of_one_cell(self):
        for letter in ("u", "d", "l", "r"):
            for many in (None, 0, 1, 999):
                self.check_done(go, made(1, 1, late=True), letter, many, late=False)

    def test_each_place_and_window_step_by_step(self):
        for window in all_windows(3, 3):
            for row, column in all_places(3, 3):
                for letter in ("u", "d", "l", "r"):
                    for many in (1, 2, 999):
                        state = windowed(3, 3, window, row=row, column=column)
                        reached = steps_from(state, letter, many)
                        go(state, letter, many)
                        self.assertEqual((state.row, state.column), reached, (window, row, column, letter, many))


def steps_from(state, letter, many):
    """Where single steps lead, each stopped by the edge as it is then."""
    place = {"row": state.row, "column": state.column}
    field, step, edge = {"u": ("row", -1, 0), "d": ("row", 1, 1), "l": ("column", -1, 2), "r": ("column", 1, 3)}[letter]
    for time in range(min(many, 5)):
        window = (state.top, state.bottom, state.left, state.right)
        now = windowed(state.wide, state.high, window, **place)
        if place[field] != edges(now)[edge]:
            place[field] += step
    return (place["row"], place["column"])


class LeftEdgeTest(StateCase):
    def test_to_the_left_edge(self):
        for column, reached in ((0, 0), (1, 0), (2, 0), (3, 3), (4, 3), (6, 3), (7, 3), (8, 3)):
            for row in (0, 3, 6):
                for late in (False, True):
                    for home in (False, True):
                        state = windowed(9, 7, WINDOW, row=row, column=column, late=late, home=home, wrap=not home)
                        self.check_done(to_left_edge, state, column=reached, late=False)

    def test_without_a_window(self):
        for column in range(9):
            self.check_done(to_left_edge, made(9, 2, row=1, column=column, late=True), column=0, late=False)


class PlaceTest(StateCase):
    def check(self, row, column, reached, **fields):
        for late in (False, True):
            state = windowed(9, 7, WINDOW, row=5, column=7, late=late, **fields)
            self.check_done(to_place, state, row, column, row=reached[0], column=reached[1], late=False)

    def test_counted_from_one_of_the_picture(self):
        self.check(1, 1, (0, 0))
        self.check(3, 5, (2, 4))
        self.check(5, 3, (4, 2))
        self.check(7, 9, (6, 8))

    def test_none_and_nought_are_one(self):
        for nothing in (None, 0):
            self.check(nothing, nothing, (0, 0))
            self.check(nothing, 4, (0, 3))
            self.check(4, nothing, (3, 0))
            self.check(nothing, nothing, (2, 3), home=True)
            self.check(nothing, 2, (2, 4), home=True)
            self.check(2, nothing, (3, 3), home=True)
        self.check(None, 0, (0, 0))
        self.check(0, None, (0, 0))

    def test_beyond_the_last_to_the_last(self):
        for many in (8, 9, 999):
            self.check(many, 1, (6, 0))
        for many in (10, 11, 999):
            self.check(1, many, (0, 8))
            self.check(many, many, (6, 8))

    def test_in_the_mode_home_counted_within_the_window(self):
        self.check(1, 1, (2, 3), home=True)
        self.check(2, 3, (3, 5), home=True)
        self.check(3, 4, (4, 6), home=True)
        self.check(4, 4, (4, 6), home=True)
        self.check(3, 5, (4, 6), home=True)
        self.check(5, 6, (4, 6), home=True)
        self.check(999, 999, (4, 6), home=True)
        self.check(999, 1, (4, 3), home=True)
        self.check(1, 999, (2, 6), home=True)

    def test_other_modes_make_no_difference(self):
        self.check(3, 5, (2, 4), wrap=False, putting=True, ink=9, last="a")
        self.check(2, 3, (3, 5), home=True, wrap=False, putting=True, ink=9, last="a")

    def test_where_it_stays_late_is_off(self):
        self.check(6, 8, (5, 7))

    def test_each_number_of_a_picture(self):
        for row in range(1, 16):
            for column in range(1, 28):
                state = State(24, 12)
                to_place(state, row, column)
                self.assertEqual((state.row, state.column), (min(row, 12) - 1, min(column, 24) - 1))

    def test_home(self):
        for row, column in all_places(9, 7):
            state = windowed(9, 7, WINDOW, row=row, column=column, late=True)
            self.check_done(to_home, state, row=0, column=0, late=False)
            state = windowed(9, 7, WINDOW, row=row, column=column, late=True, home=True)
            self.check_done(to_home, state, row=2, column=3, late=False)

    def test_home_where_it_is_there(self):
        self.check_done(to_home, made(4, 4, late=True), late=False)
        self.check_done(to_home, windowed(4, 4, (1, 2, 1, 2), row=1, column=1, late=True, home=True), late=False)


def with_stops(stops, **fields):
    state = windowed(24, 3, (1, 1, 8, 17), row=1, **fields)
    take_stops(state)
    for stop in stops:
        state.stops[stop] = True
    return state


class TabTest(StateCase):
    def check(self, deed, stops, column, many, reached, **fields):
        for late in (False, True):
            state = with_stops(stops, column=column, late=late, **fields)
            self.check_done(deed, state, many, column=reached, late=False)

    def test_a_tab_to_the_next_stop(self):
        for many in (None, 0, 1):
            self.check(on_tab, (10, 13, 15), 8, many, 10)
            self.check(on_tab, (10, 13, 15), 9, many, 10)
            self.check(on_tab, (10, 13, 15), 10, many, 13)
            self.check(on_tab, (15, 13, 10), 12, many, 13)
            self.check(on_tab, (13, 10, 15), 13, many, 15)

    def test_tabs_so_many_times(self):
        self.check(on_tab, (10, 13, 15), 8, 2, 13)
        self.check(on_tab, (10, 13, 15), 8, 3, 15)
        self.check(on_tab, (10, 13, 15), 8, 4, 17)
        self.check(on_tab, (10, 13, 15), 8, 5, 17)
        self.check(on_tab, (10, 13, 15), 8, 999, 17)

    def test_a_tab_goes_not_beyond_the_right_edge(self):
        self.check(on_tab, (10, 20), 10, 1, 17)
        self.check(on_tab, (10, 20), 17, 1, 17)
        self.check(on_tab, (10, 17, 20), 10, 1, 17)
        self.check(on_tab, (10, 17, 20), 10, 2, 17)
        self.check(on_tab, (10, 18), 10, 1, 17)
        self.check(on_tab, (10, 20), 8, 999, 17)

    def test_a_tab_without_a_stop_goes_to_the_right_edge(self):
        self.check(on_tab, (), 8, 1, 17)
        self.check(on_tab, (), 0, 1, 17)
        self.check(on_tab, (), 18, 1, 23)
        self.check(on_tab, (2, 8), 8, None, 17)
        self.check(on_tab, (2, 19), 19, None, 23)
        self.check(on_tab, (), 17, None, 17)
        self.check(on_tab, (), 23, 999, 23)

    def test_a_tab_from_left_of_the_window(self):
        self.check(on_tab, (2, 5, 9, 20), 0, 1, 2)
        self.check(on_tab, (2, 5, 9, 20), 0, 2, 5)
        self.check(on_tab, (2, 5, 9, 20), 0, 3, 9)
        self.check(on_tab, (2, 5, 9, 20), 0, 4, 17)
        self.check(on_tab, (2, 5, 9, 20), 0, 5, 17)
        self.check(on_tab, (20,), 3, 1, 17)

    def test_a_tab_from_right_of_the_window(self):
        self.check(on_tab, (10, 20, 22), 18, 1, 20)
        self.check(on_tab, (10, 20, 22), 20, 1, 22)
        self.check(on_tab, (10, 20, 22), 18, 3, 23)
        self.check(on_tab, (10, 20, 23), 20, 1, 23)

    def test_back_to_the_next_stop(self):
        for many in (None, 0, 1):
            self.check(back_tab, (10, 13, 15), 17, many, 15)
            self.check(back_tab, (10, 13, 15), 16, many, 15)
            self.check(back_tab, (10, 13, 15), 15, many, 13)
            self.check(back_tab, (15, 13, 10), 14, many, 13)
            self.check(back_tab, (13, 10, 15), 13, many, 10)

    def test_back_so_many_times(self):
        self.check(back_tab, (10, 13, 15), 17, 2, 13)
        self.check(back_tab, (10, 13, 15), 17, 3, 10)
        self.check(back_tab, (10, 13, 15), 17, 4, 8)
        self.check(back_tab, (10, 13, 15), 17, 5, 8)
        self.check(back_tab, (10, 13, 15), 17, 999, 8)

    def test_back_to_the_left_edge_where_the_stop_lies_beyond(self):
        self.check(back_tab, (4, 10), 10, 1, 8)
        self.check(back_tab, (4, 10), 8, 1, 8)
        self.check(back_tab, (4, 8, 10), 10, 1, 8)
        self.check(back_tab, (4, 8, 10), 10, 2, 8)
        self.check(back_tab, (7, 10), 10, 1, 8)
        self.check(back_tab, (4, 10), 17, 999, 8)

    def test_back_without_a_stop_to_the_left_edge(self):
        self.check(back_tab, (), 17, 1, 8)
        self.check(back_tab, (), 23, 1, 8)
        self.check(back_tab, (), 7, 1, 0)
        self.check(back_tab, (10, 20), 10, None, 8)
        self.check(back_tab, (5, 20), 5, None, 0)
        self.check(back_tab, (), 8, None, 8)
        self.check(back_tab, (), 0, 999, 0)

    def test_back_from_right_of_the_window(self):
        self.check(back_tab, (4, 12, 19, 21), 23, 1, 21)
        self.check(back_tab, (4, 12, 19, 21), 23, 2, 19)
        self.check(back_tab, (4, 12, 19, 21), 23, 3, 12)
        self.check(back_tab, (4, 12, 19, 21), 23, 4, 8)
        self.check(back_tab, (4, 12, 19, 21), 23, 5, 8)
        self.check(back_tab, (4,), 20, 1, 8)

    def test_back_from_left_of_the_window(self):
        self.check(back_tab, (2, 5, 10), 7, 1, 5)
        self.check(back_tab, (2, 5, 10), 5, 1, 2)
        self.check(back_tab, (2, 5, 10), 7, 3, 0)
        self.check(back_tab, (0, 5, 10), 5, 1, 0)

    def test_the_first_column_may_be_a_stop(self):
        self.check(back_tab, (0,), 7, 1, 0)
        self.check(back_tab, (0,), 9, 1, 8)
        self.check(on_tab, (0,), 0, 1, 17)

    def test_modes_make_no_difference(self):
        fields = {"home": True, "wrap": False, "putting": True, "ink": 8}
        self.check(on_tab, (10, 13, 20), 8, 2, 13, **fields)
        self.check(on_tab, (10, 13, 20), 0, 9, 17, **fields)
        self.check(back_tab, (10, 13, 20), 17, 2, 10, **fields)
        self.check(back_tab, (10, 13, 20), 17, 3, 8, **fields)

    def test_the_first_stops(self):
        state = State(11, 1)
        found = []
        for time in range(4):
            on_tab(state, None)
            found.append(state.column)
        self.assertEqual(found, [4, 8, 10, 10])
        found = []
        for time in range(4):
            back_tab(state, None)
            found.append(state.column)
        self.assertEqual(found, [8, 4, 0, 0])

    def test_the_rows_of_the_window_make_no_difference(self):
        for row in (0, 1, 2):
            state = with_stops((10, 20), column=8)
            state.row = row
            on_tab(state, 2)
            self.assertEqual((state.row, state.column), (row, 17))
            back_tab(state, 2)
            self.assertEqual((state.row, state.column), (row, 8))

    def test_each_column_and_window_cell_by_cell(self):
        for window in all_windows(6, 1):
            for stops in ((), (1,), (2, 4), (0, 3, 5), (0, 1, 2, 3, 4, 5)):
                for column in range(6):
                    for many in (1, 2, 6):
                        state = windowed(6, 1, window, column=column, stops=dict.fromkeys(stops, True))
                        right, left = edges(state)[3], edges(state)[2]
                        on_tab(state, many)
                        self.assertEqual(state.column, walked(column, stops, many, 1, right), (window, stops, column))
                        state.column = column
                        back_tab(state, many)
                        self.assertEqual(state.column, walked(column, stops, many, -1, left), (window, stops, column))


def walked(column, stops, many, step, edge):
    for time in range(many):
        while column != edge:
            column += step
            if column in stops:
                break
    return column


class StopsTest(StateCase):
    def test_set_a_stop(self):
        for late in (False, True):
            for column in (0, 3, 5, 23):
                state = with_stops((4, 8), column=column, late=late)
                self.check_done(set_stop, state, stops={4: True, 8: True, column: True})

    def test_set_a_stop_where_there_is_one(self):
        for late in (False, True):
            self.check_done(set_stop, with_stops((4, 8), column=8, late=late))

    def test_take_a_stop(self):
        for late in (False, True):
            self.check_done(take_stop, with_stops((4, 8, 20), column=8, late=late), stops={4: True, 20: True})
            self.check_done(take_stop, with_stops((4, 8, 20), column=20, late=late), stops={4: True, 8: True})
            self.check_done(take_stop, with_stops((0,), column=0, late=late), stops={})

    def test_take_a_stop_where_there_is_none(self):
        for late in (False, True):
            self.check_done(take_stop, with_stops((4, 8), column=5, late=late))
            self.check_done(take_stop, with_stops((), column=0, late=late))

    def test_take_all_stops(self):
        for late in (False, True):
            self.check_done(take_stops, with_stops((0, 4, 8, 23), column=8, late=late), stops={})
            self.check_done(take_stops, with_stops((), column=8, late=late))
            self.check_done(take_stops, made(24, 12, late=late), stops={})

    def test_what_is_set_and_taken_is_gone_by(self):
        state = State(24, 2)
        to_place(state, 2, 7)
        set_stop(state)
        to_left_edge(state)
        on_tab(state, 2)
        self.assertEqual((state.row, state.column), (1, 6))
        take_stop(state)
        to_left_edge(state)
        on_tab(state, 2)
        self.assertEqual((state.row, state.column), (1, 8))
        take_stops(state)
        on_tab(state, 1)
        self.assertEqual((state.row, state.column), (1, 23))

    def test_the_stops_of_another_state_stay(self):
        one = State(12, 2)
        other = State(12, 2)
        before = fields_of(other)
        take_stops(one)
        set_stop(one)
        self.assertEqual(one.stops, {0: True})
        self.assertEqual(fields_of(other), before)
        self.assertEqual(fields_of(State(12, 2)), before)


if __name__ == "__main__":
    unittest.main()
