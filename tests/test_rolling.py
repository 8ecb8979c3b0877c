"""rolling.py: promises [11] and [12], lines of [15], and what [1] and [9] say of them."""

import unittest

from signscreen.rolling import cut_lines, put_lines, roll, roll_down, roll_up
from tests.states import StateCase, all_places, all_windows, changed_picture, windowed

INK = 77
BLANK = (" ", INK)
# Rows 1 to 4 and columns 2 to 4, of a picture of 7 by 6.
WINDOW = (1, 4, 2, 4)
WIDE = 7
HIGH = 6


def rolled(sources, columns=(2, 3, 4)):
    """The picture whose rows, in these columns, are those they are told to be: a row's number, or None for blanks."""
    cells = {}
    for row, source in sources.items():
        for column in columns:
            cells[(row, column)] = BLANK if source is None else (source, column)
    return changed_picture(WIDE, HIGH, cells)


def placed(row, column, window=WINDOW, **fields):
    return windowed(WIDE, HIGH, window, row=row, column=column, ink=INK, **fields)


class RollRowsTest(StateCase):
    def check(self, deed, first, times, sources):
        for late in (False, True):
            for row, column in ((0, 0), (2, 3), (4, 4), (5, 6)):
                state = placed(row, column, late=late)
                self.check_done(deed, state, first, times, picture=rolled(sources))

    def test_the_whole_window_up(self):
        self.check(roll_up, 1, 1, {1: 2, 2: 3, 3: 4, 4: None})
        self.check(roll_up, 1, 2, {1: 3, 2: 4, 3: None, 4: None})
        self.check(roll_up, 1, 3, {1: 4, 2: None, 3: None, 4: None})

    def test_the_whole_window_down(self):
        self.check(roll_down, 1, 1, {4: 3, 3: 2, 2: 1, 1: None})
        self.check(roll_down, 1, 2, {4: 2, 3: 1, 2: None, 1: None})
        self.check(roll_down, 1, 3, {4: 1, 3: None, 2: None, 1: None})

    def test_from_a_row_on(self):
        self.check(roll_up, 2, 1, {2: 3, 3: 4, 4: None})
        self.check(roll_up, 2, 2, {2: 4, 3: None, 4: None})
        self.check(roll_up, 3, 1, {3: 4, 4: None})
        self.check(roll_down, 2, 1, {4: 3, 3: 2, 2: None})
        self.check(roll_down, 2, 2, {4: 2, 3: None, 2: None})
        self.check(roll_down, 3, 1, {4: 3, 3: None})

    def test_the_last_row_alone(self):
        for times in (1, 2, 999):
            self.check(roll_up, 4, times, {4: None})
            self.check(roll_down, 4, times, {4: None})

    def test_no_times(self):
        for first in (1, 2, 3, 4):
            self.check(roll_up, first, 0, {})
            self.check(roll_down, first, 0, {})

    def test_as_many_times_as_rows_and_more(self):
        for times in (4, 5, 6, 7, 12, 100, 999):
            self.check(roll_up, 1, times, {1: None, 2: None, 3: None, 4: None})
            self.check(roll_down, 1, times, {1: None, 2: None, 3: None, 4: None})
        for times in (3, 4, 5, 6, 999):
            self.check(roll_up, 2, times, {2: None, 3: None, 4: None})
            self.check(roll_down, 2, times, {2: None, 3: None, 4: None})

    def test_the_blanks_have_the_ink_of_then(self):
        for ink in (0, 1, 511):
            for deed in (roll_up, roll_down):
                state = windowed(2, 1, (0, 0, 0, 1), ink=ink)
                deed(state, 0, 1)
                self.assertEqual(state.picture, [[(" ", ink), (" ", ink)]])

    def test_several_times_is_once_so_often(self):
        for window in all_windows(2, 4):
            for first in range(window[0], window[1] + 1):
                for deed in (roll_up, roll_down):
                    for times in range(6):
                        one = windowed(2, 4, window, ink=INK)
                        deed(one, first, times)
                        other = windowed(2, 4, window, ink=INK)
                        for turn in range(times):
                            deed(other, first, 1)
                        self.assertEqual(one.picture, other.picture, (window, first, deed, times))

    def test_each_window_once(self):
        for window in all_windows(3, 3):
            top, bottom, left, right = window
            for first in range(top, bottom + 1):
                for deed, step, open_end in ((roll_up, 1, bottom), (roll_down, -1, first)):
                    cells = {}
                    for row, column in all_places(3, 3):
                        if first <= row <= bottom and left <= column <= right:
                            cells[(row, column)] = BLANK if row == open_end else (row + step, column)
                    state = windowed(3, 3, window, ink=INK)
                    self.check_done(deed, state, first, 1, picture=changed_picture(3, 3, cells))

    def test_modes_make_no_difference(self):
        state = placed(2, 3, home=True, wrap=False, putting=True, last="x")
        self.check_done(roll_up, state, 1, 1, picture=rolled({1: 2, 2: 3, 3: 4, 4: None}))
        state = placed(2, 3, home=True, wrap=False, putting=True, last="x")
        self.check_done(roll_down, state, 1, 1, picture=rolled({4: 3, 3: 2, 2: 1, 1: None}))


class RollTest(StateCase):
    def check(self, letter, many, sources):
        for late in (False, True):
            # Where the cursor is makes no difference.
            for row, column in ((0, 0), (2, 3), (4, 5), (5, 6)):
                state = placed(row, column, late=late)
                self.check_done(roll, state, letter, many, picture=rolled(sources), late=False)

    def test_none_and_nought_are_one(self):
        for many in (None, 0, 1):
            self.check("R", many, {1: 2, 2: 3, 3: 4, 4: None})
            self.check("D", many, {4: 3, 3: 2, 2: 1, 1: None})

    def test_so_many_times(self):
        self.check("R", 2, {1: 3, 2: 4, 3: None, 4: None})
        self.check("D", 2, {4: 2, 3: 1, 2: None, 1: None})
        for many in (4, 5, 999):
            self.check("R", many, {1: None, 2: None, 3: None, 4: None})
            self.check("D", many, {1: None, 2: None, 3: None, 4: None})

    def test_a_window_of_one_row_and_of_one_cell(self):
        for letter in ("R", "D"):
            for many in (None, 0, 1, 999):
                state = placed(0, 0, (2, 2, 0, 6), late=True)
                picture = rolled({2: None}, range(7))
                self.check_done(roll, state, letter, many, picture=picture, late=False)
                state = placed(0, 0, (5, 5, 6, 6), late=True)
                self.check_done(roll, state, letter, many, picture=rolled({5: None}, (6,)), late=False)

    def test_the_whole_picture(self):
        state = placed(3, 3, (0, 5, 0, 6))
        picture = rolled({0: 1, 1: 2, 2: 3, 3: 4, 4: 5, 5: None}, range(7))
        self.check_done(roll, state, "R", 1, picture=picture)


class LinesTest(StateCase):
    def check(self, deed, many, row, sources, columns=(0, 2, 3, 4, 5)):
        for late in (False, True):
            # The cursor's column makes no difference, left and right of the window neither.
            for column in columns:
                state = placed(row, column, late=late)
                self.check_done(deed, state, many, picture=rolled(sources), late=False)

    def test_put_one(self):
        for many in (None, 0, 1):
            self.check(put_lines, many, 1, {4: 3, 3: 2, 2: 1, 1: None})
            self.check(put_lines, many, 2, {4: 3, 3: 2, 2: None})
            self.check(put_lines, many, 3, {4: 3, 3: None})
            self.check(put_lines, many, 4, {4: None})

    def test_cut_one(self):
        for many in (None, 0, 1):
            self.check(cut_lines, many, 1, {1: 2, 2: 3, 3: 4, 4: None})
            self.check(cut_lines, many, 2, {2: 3, 3: 4, 4: None})
            self.check(cut_lines, many, 3, {3: 4, 4: None})
            self.check(cut_lines, many, 4, {4: None})

    def test_several(self):
        self.check(put_lines, 2, 1, {4: 2, 3: 1, 2: None, 1: None})
        self.check(put_lines, 2, 2, {4: 2, 3: None, 2: None})
        self.check(cut_lines, 2, 1, {1: 3, 2: 4, 3: None, 4: None})
        self.check(cut_lines, 2, 2, {2: 4, 3: None, 4: None})

    def test_more_than_there_are(self):
        for many in (3, 4, 999):
            self.check(put_lines, many, 2, {2: None, 3: None, 4: None})
            self.check(cut_lines, many, 2, {2: None, 3: None, 4: None})
        self.check(put_lines, 999, 1, {1: None, 2: None, 3: None, 4: None})
        self.check(cut_lines, 999, 1, {1: None, 2: None, 3: None, 4: None})

    def test_nothing_but_late_above_and_below_the_window(self):
        for many in (None, 0, 1, 2, 999):
            for row in (0, 5):
                self.check(put_lines, many, row, {}, range(7))
                self.check(cut_lines, many, row, {}, range(7))

    def test_modes_make_no_difference(self):
        for deed, sources in ((put_lines, {4: 3, 3: None}), (cut_lines, {3: 4, 4: None})):
            state = placed(3, 6, late=True, home=True, wrap=False, putting=True, last="x")
            self.check_done(deed, state, 1, picture=rolled(sources), late=False)

    def test_rows_stay_lists_of_their_own(self):
        for deed in (put_lines, cut_lines):
            state = windowed(2, 4, (0, 3, 0, 1), row=1, ink=0)
            deed(state, 2)
            for row in range(4):
                state.picture[row][0] = ("abcd"[row], row)
            self.assertEqual([line[0] for line in state.picture], [("a", 0), ("b", 1), ("c", 2), ("d", 3)])


if __name__ == "__main__":
    unittest.main()
