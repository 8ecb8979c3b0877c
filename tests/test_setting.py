"""setting.py: promises [17], [18] and [19], and what [1] and [9] say of them."""

import unittest

from signscreen.inks import ink_by_text
from signscreen.setting import dye, set_columns, set_rows, turn_modes
from signscreen.state import State
from tests.states import StateCase, fields_of, made, windowed

WINDOW = (2, 4, 3, 6)


def placed(**fields):
    """A picture of 9 by 7 with a window, the cursor right below of it."""
    return windowed(9, 7, WINDOW, row=5, column=7, **fields)


class WindowTest(StateCase):
    def check_rows(self, first, last, top, bottom):
        for late in (False, True):
            state = placed(late=late)
            self.check_done(set_rows, state, first, last, top=top, bottom=bottom, row=0, column=0, late=False)
            state = placed(late=late, home=True, wrap=False, putting=True, ink=5, last="x")
            self.check_done(set_rows, state, first, last, top=top, bottom=bottom, row=top, column=3, late=False)

    def check_columns(self, first, last, left, right):
        for late in (False, True):
            state = placed(late=late)
            self.check_done(set_columns, state, first, last, left=left, right=right, row=0, column=0, late=False)
            state = placed(late=late, home=True, wrap=False, putting=True, ink=5, last="x")
            self.check_done(set_columns, state, first, last, left=left, right=right, row=2, column=left, late=False)

    def check_nothing(self, deed, first, last):
        for late in (False, True):
            for home in (False, True):
                self.check_done(deed, placed(late=late, home=home), first, last)

    def test_two_numbers_counted_from_one(self):
        self.check_rows(1, 7, 0, 6)
        self.check_rows(2, 3, 1, 2)
        self.check_rows(5, 6, 4, 5)
        self.check_columns(1, 9, 0, 8)
        self.check_columns(2, 3, 1, 2)
        self.check_columns(6, 8, 5, 7)

    def test_one_row_and_one_column(self):
        for number in range(1, 8):
            self.check_rows(number, number, number - 1, number - 1)
        for number in range(1, 10):
            self.check_columns(number, number, number - 1, number - 1)

    def test_none_and_nought_are_the_first_and_the_last(self):
        for nothing in (None, 0):
            for other in (None, 0):
                self.check_rows(nothing, other, 0, 6)
                self.check_columns(nothing, other, 0, 8)
            self.check_rows(nothing, 3, 0, 2)
            self.check_rows(3, nothing, 2, 6)
            self.check_columns(nothing, 3, 0, 2)
            self.check_columns(3, nothing, 2, 8)
            self.check_rows(nothing, 1, 0, 0)
            self.check_rows(7, nothing, 6, 6)
            self.check_columns(nothing, 1, 0, 0)
            self.check_columns(9, nothing, 8, 8)

    def test_the_second_beyond_the_last_is_the_last(self):
        for last in (8, 9, 12, 999):
            self.check_rows(3, last, 2, 6)
            self.check_rows(7, last, 6, 6)
            self.check_rows(None, last, 0, 6)
        for last in (10, 11, 24, 999):
            self.check_columns(3, last, 2, 8)
            self.check_columns(9, last, 8, 8)
            self.check_columns(0, last, 0, 8)

    def test_nothing_where_the_first_is_greater(self):
        for first, last in ((2, 1), (7, 6), (7, 1), (5, 4), (999, 1)):
            self.check_nothing(set_rows, first, last)
            self.check_nothing(set_columns, first, last)

    def test_nothing_where_the_first_is_beyond_the_last(self):
        for last in (None, 0, 1, 7, 8, 9, 10, 999):
            self.check_nothing(set_rows, 8, last)
            self.check_nothing(set_rows, 999, last)
            self.check_nothing(set_columns, 10, last)
            self.check_nothing(set_columns, 999, last)

    def test_the_same_window_again_leads_home(self):
        self.check_rows(3, 5, 2, 4)
        self.check_columns(4, 7, 3, 6)

    def test_each_pair_of_numbers(self):
        for first in range(10):
            for last in range(10):
                state = made(5, 6, row=3, column=3)
                rows = [row for row in range(1, 7) if (first or 1) <= row <= (last or 6)]
                set_rows(state, first, last)
                found = (state.top, state.bottom, state.row)
                expected = (rows[0] - 1, rows[-1] - 1, 0) if rows else (0, 5, 3)
                self.assertEqual(found, expected, (first, last))

    def test_a_picture_of_one_cell(self):
        for first, last in ((None, None), (0, 0), (1, 1), (1, 999)):
            self.check_done(set_rows, made(1, 1, late=True), first, last, late=False)
            self.check_done(set_columns, made(1, 1, late=True), first, last, late=False)
        for first, last in ((2, 1), (2, 2), (2, None), (999, 999)):
            self.check_done(set_rows, made(1, 1, late=True), first, last)
            self.check_done(set_columns, made(1, 1, late=True), first, last)

    def test_rows_and_columns_together(self):
        state = State(9, 7)
        set_rows(state, 3, 5)
        set_columns(state, 4, 7)
        self.assertEqual((state.top, state.bottom, state.left, state.right), WINDOW)
        self.assertEqual((state.row, state.column), (0, 0))


class DyeTest(StateCase):
    def check(self, ink, numbers, expected):
        for late in (False, True):
            state = placed(late=late, ink=ink, home=True)
            self.check_done(dye, state, numbers, ink=expected)

    def by_text(self, text, numbers, expected):
        self.check(ink_by_text(text), numbers, ink_by_text(expected))

    def test_plain(self):
        for ink in (0, 1, 64, 300, 511):
            self.check(ink, (None,), 0)
            self.check(ink, (0,), 0)

    def test_marks_on(self):
        self.by_text("plain", (1,), "bold")
        self.by_text("plain", (2,), "under")
        self.by_text("plain", (3,), "turned")
        self.by_text("bold fore 3", (1,), "bold fore 3")
        self.by_text("bold fore 3 back 7", (3,), "bold turned fore 3 back 7")
        self.by_text("under turned back 1", (1,), "bold under turned back 1")

    def test_marks_off(self):
        self.by_text("bold under turned fore 7 back 7", (4,), "under turned fore 7 back 7")
        self.by_text("bold under turned fore 7 back 7", (5,), "bold turned fore 7 back 7")
        self.by_text("bold under turned fore 7 back 7", (6,), "bold under fore 7 back 7")
        for number in (4, 5, 6):
            self.by_text("plain", (number,), "plain")
        self.by_text("under fore 1", (4,), "under fore 1")

    def test_turned_marks(self):
        self.by_text("plain", (7,), "bold under turned")
        self.by_text("bold fore 2 back 4", (7,), "under turned fore 2 back 4")
        self.by_text("bold under turned fore 1", (7,), "fore 1")
        self.by_text("under turned", (7, 7), "under turned")

    def test_hues(self):
        for hue in range(8):
            self.check(0, (10 + hue,), hue)
            self.check(511, (10 + hue,), 504 + hue)
            self.check(0, (20 + hue,), 8 * hue)
            self.check(511, (20 + hue,), 455 + 8 * hue)
        self.by_text("bold fore 3 back 5", (11,), "bold fore 1 back 5")
        self.by_text("bold fore 3 back 5", (21,), "bold fore 3 back 1")
        self.by_text("bold fore 3 back 5", (10,), "bold back 5")
        self.by_text("bold fore 3 back 5", (20,), "bold fore 3")

    def test_other_numbers_change_nothing(self):
        told = [0, 1, 2, 3, 4, 5, 6, 7] + list(range(10, 18)) + list(range(20, 28))
        for number in range(1000):
            if number not in told:
                for ink in (0, 219, 511):
                    state = State(2, 1)
                    state.ink = ink
                    dye(state, (number,))
                    self.assertEqual(state.ink, ink, number)
        for number in (8, 9, 18, 19, 28, 29, 30, 100, 999):
            self.check(0, (number,), 0)
            self.check(342, (number,), 342)

    def test_several_in_order(self):
        self.by_text("bold", (None, 2, 13), "under fore 3")
        self.by_text("plain", (1, 2, 3, 14, 25), "bold under turned fore 4 back 5")
        self.by_text("plain", (1, 4), "plain")
        self.by_text("plain", (4, 1), "bold")
        self.by_text("plain", (1, 0), "plain")
        self.by_text("plain", (13, None, 22), "back 2")
        self.by_text("plain", (11, 12, 13, 14, 15, 16), "fore 6")
        self.by_text("plain", (1, 7, 12), "under turned fore 2")
        self.by_text("plain", (12, 7, 1), "bold under turned fore 2")
        self.by_text("fore 1", (8, 2, 999, 21, 18, 9), "under fore 1 back 1")

    def test_each_mark_and_number_of_each_ink(self):
        for ink in range(512):
            for mark in range(3):
                bit = 64 << mark
                for number, expected in ((1 + mark, ink | bit), (4 + mark, ink & (511 - bit))):
                    state = State(1, 1)
                    state.ink = ink
                    self.assertIsNone(dye(state, (number,)))
                    self.assertEqual(state.ink, expected, (ink, number))


class ModesTest(StateCase):
    def check(self, numbers, on, before, after, place=None):
        """Modes are told as wrap, insert, home; without a place the cursor and late stay."""
        names = ("wrap", "putting", "home")
        for late in (False, True):
            changes = dict(zip(names, after))
            if place is not None:
                changes.update(row=place[0], column=place[1], late=False)
            self.check_done(turn_modes, placed(late=late, **dict(zip(names, before))), numbers, on, **changes)

    def test_wrap(self):
        for before in (False, True):
            self.check((1,), True, (before, False, False), (True, False, False))
            self.check((1,), False, (before, False, False), (False, False, False))
            self.check((1,), True, (before, True, True), (True, True, True))
            self.check((1,), False, (before, True, True), (False, True, True))

    def test_insert(self):
        for before in (False, True):
            self.check((2,), True, (False, before, False), (False, True, False))
            self.check((2,), False, (False, before, False), (False, False, False))
            self.check((2,), True, (True, before, True), (True, True, True))
            self.check((2,), False, (True, before, True), (True, False, True))

    def test_home_leads_home_also_where_it_was_so(self):
        for before in (False, True):
            self.check((3,), True, (False, False, before), (False, False, True), (2, 3))
            self.check((3,), False, (False, False, before), (False, False, False), (0, 0))
            self.check((3,), True, (True, True, before), (True, True, True), (2, 3))
            self.check((3,), False, (True, True, before), (True, True, False), (0, 0))

    def test_others_and_none_do_nothing(self):
        for number in (None, 0, 4, 5, 6, 7, 10, 13, 999):
            for on in (False, True):
                for modes in ((False, False, False), (True, True, True), (True, False, False)):
                    self.check((number,), on, modes, modes)

    def test_several_numbers(self):
        self.check((1, 2), True, (False, False, False), (True, True, False))
        self.check((2, 1), False, (True, True, True), (False, False, True))
        self.check((1, 1), False, (True, False, False), (False, False, False))
        self.check((None, 2, 9, 1), True, (False, False, True), (True, True, True))
        self.check((1, 2, 3), True, (False, False, False), (True, True, True), (2, 3))
        self.check((3, 2, 1), False, (True, True, True), (False, False, False), (0, 0))
        self.check((3, None), True, (True, False, False), (True, False, True), (2, 3))
        self.check((None, 0, 3, 4, 2, 999), True, (True, False, False), (True, True, True), (2, 3))
        self.check((3, 3), True, (True, False, True), (True, False, True), (2, 3))

    def test_home_at_a_window_of_the_whole(self):
        for on in (False, True):
            state = made(4, 3, row=2, column=3, late=True)
            self.check_done(turn_modes, state, (3,), on, row=0, column=0, late=False, home=on)

    def test_late_is_off_at_home_also_where_the_cursor_is_there(self):
        self.check_done(turn_modes, made(4, 3, late=True), (3,), False, late=False)
        state = windowed(4, 3, (1, 2, 1, 2), row=1, column=1, late=True, home=True)
        self.check_done(turn_modes, state, (3,), True, late=False)

    def test_the_modes_of_another_state_stay(self):
        one = State(3, 3)
        other = State(3, 3)
        before = fields_of(other)
        turn_modes(one, (2, 3), True)
        dye(one, (1,))
        set_rows(one, 2, 3)
        set_columns(one, 2, 3)
        self.assertEqual(fields_of(other), before)
        self.assertEqual(fields_of(State(3, 3)), before)


if __name__ == "__main__":
    unittest.main()
