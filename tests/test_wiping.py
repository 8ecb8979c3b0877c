"""wiping.py: cells of promise [15], promise [16], and what [1], [9] and [11] say of them."""

import unittest

from signscreen.state import edges
from signscreen.wiping import cut_cells, put_cells, wipe, wipe_cells
from tests.states import StateCase, all_places, changed_picture, full_picture, windowed

INK = 300
BLANK = (" ", INK)
# Columns 2 to 5 and rows 1 to 2, of a picture of 9 by 4.
WINDOW = (1, 2, 2, 5)
WIDE = 9
HIGH = 4


def placed(row, column, **fields):
    return windowed(WIDE, HIGH, WINDOW, row=row, column=column, ink=INK, **fields)


class CellsTest(StateCase):
    def check(self, deed, many, column, sources):
        """sources tells of columns of the cursor's row what they hold then: a column's number, or None for a blank."""
        for late in (False, True):
            for row in range(HIGH):
                cells = {}
                for place, source in sources.items():
                    cells[(row, place)] = BLANK if source is None else (row, source)
                picture = changed_picture(WIDE, HIGH, cells)
                state = placed(row, column, late=late)
                self.check_done(deed, state, many, picture=picture, late=False)
                state = placed(row, column, late=late, home=True, wrap=False, putting=True, last="x")
                self.check_done(deed, state, many, picture=picture, late=False)

    def test_put_one(self):
        for many in (None, 0, 1):
            self.check(put_cells, many, 2, {2: None, 3: 2, 4: 3, 5: 4})
            self.check(put_cells, many, 3, {3: None, 4: 3, 5: 4})
            self.check(put_cells, many, 5, {5: None})

    def test_put_several(self):
        self.check(put_cells, 2, 2, {2: None, 3: None, 4: 2, 5: 3})
        self.check(put_cells, 3, 2, {2: None, 3: None, 4: None, 5: 2})
        self.check(put_cells, 2, 3, {3: None, 4: None, 5: 3})
        for many in (4, 5, 999):
            self.check(put_cells, many, 2, {2: None, 3: None, 4: None, 5: None})
            self.check(put_cells, many, 5, {5: None})

    def test_put_left_of_the_window_goes_to_its_right_column(self):
        self.check(put_cells, 1, 0, {0: None, 1: 0, 2: 1, 3: 2, 4: 3, 5: 4})
        self.check(put_cells, 4, 1, {1: None, 2: None, 3: None, 4: None, 5: 1})
        self.check(put_cells, 999, 1, {1: None, 2: None, 3: None, 4: None, 5: None})

    def test_put_right_of_the_window_goes_to_the_last_column(self):
        self.check(put_cells, 1, 6, {6: None, 7: 6, 8: 7})
        self.check(put_cells, 2, 6, {6: None, 7: None, 8: 6})
        self.check(put_cells, 999, 7, {7: None, 8: None})
        self.check(put_cells, None, 8, {8: None})

    def test_cut_one(self):
        for many in (None, 0, 1):
            self.check(cut_cells, many, 2, {2: 3, 3: 4, 4: 5, 5: None})
            self.check(cut_cells, many, 3, {3: 4, 4: 5, 5: None})
            self.check(cut_cells, many, 5, {5: None})

    def test_cut_several(self):
        self.check(cut_cells, 2, 2, {2: 4, 3: 5, 4: None, 5: None})
        self.check(cut_cells, 3, 2, {2: 5, 3: None, 4: None, 5: None})
        self.check(cut_cells, 2, 3, {3: 5, 4: None, 5: None})
        for many in (4, 5, 999):
            self.check(cut_cells, many, 2, {2: None, 3: None, 4: None, 5: None})
            self.check(cut_cells, many, 5, {5: None})

    def test_cut_left_of_the_window_goes_to_its_right_column(self):
        self.check(cut_cells, 1, 0, {0: 1, 1: 2, 2: 3, 3: 4, 4: 5, 5: None})
        self.check(cut_cells, 4, 1, {1: 5, 2: None, 3: None, 4: None, 5: None})
        self.check(cut_cells, 999, 1, {1: None, 2: None, 3: None, 4: None, 5: None})

    def test_cut_right_of_the_window_goes_to_the_last_column(self):
        self.check(cut_cells, 1, 6, {6: 7, 7: 8, 8: None})
        self.check(cut_cells, 2, 6, {6: 8, 7: None, 8: None})
        self.check(cut_cells, 999, 7, {7: None, 8: None})
        self.check(cut_cells, None, 8, {8: None})

    def test_wipe_one(self):
        for many in (None, 0, 1):
            for column in range(WIDE):
                self.check(wipe_cells, many, column, {column: None})

    def test_wipe_several_to_the_last_column(self):
        self.check(wipe_cells, 2, 0, {0: None, 1: None})
        self.check(wipe_cells, 3, 1, {1: None, 2: None, 3: None})
        self.check(wipe_cells, 4, 4, {4: None, 5: None, 6: None, 7: None})
        self.check(wipe_cells, 5, 4, {4: None, 5: None, 6: None, 7: None, 8: None})
        for many in (5, 6, 9, 999):
            self.check(wipe_cells, many, 5, {5: None, 6: None, 7: None, 8: None})
            self.check(wipe_cells, many, 7, {7: None, 8: None})
            self.check(wipe_cells, many, 8, {8: None})
        self.check(wipe_cells, 9, 0, {column: None for column in range(9)})
        self.check(wipe_cells, 999, 0, {column: None for column in range(9)})
        self.check(wipe_cells, 8, 0, {column: None for column in range(8)})

    def test_a_picture_of_one_cell(self):
        for deed in (put_cells, cut_cells, wipe_cells):
            for many in (None, 0, 1, 999):
                state = windowed(1, 1, (0, 0, 0, 0), ink=INK, late=True)
                self.check_done(deed, state, many, picture=[[BLANK]], late=False)

    def test_each_column_cell_by_cell(self):
        for column in range(WIDE):
            right = edges(placed(1, column))[3]
            line = full_picture(WIDE, HIGH)[1]
            for many in range(1, 12):
                part = line[column : right + 1]
                put = ([BLANK] * many + part)[: len(part)]
                cut = (part + [BLANK] * many)[-len(part) :] if many < len(part) else [BLANK] * len(part)
                wiped = [BLANK] * min(many, WIDE - column)
                for deed, cells in ((put_cells, put), (cut_cells, cut), (wipe_cells, wiped)):
                    state = placed(1, column)
                    deed(state, many)
                    expected = line[:column] + cells + line[column + len(cells) :]
                    self.assertEqual(state.picture[1], expected, (deed, column, many))


class WipeTest(StateCase):
    def check(self, way, row, column, wiped):
        picture = changed_picture(WIDE, HIGH, {place: BLANK for place in wiped})
        for late in (False, True):
            self.check_done(wipe, placed(row, column, late=late), way, picture=picture, late=False)
        state = placed(row, column, late=True, home=True, wrap=False, putting=True, last="x")
        self.check_done(wipe, state, way, picture=picture, late=False)

    def check_each(self, ways, is_wiped):
        places = all_places(WIDE, HIGH)
        for row, column in places:
            for way in ways:
                self.check(way, row, column, [place for place in places if is_wiped(place, (row, column))])

    def test_from_the_cursor_on(self):
        self.check_each((None, 0), lambda place, cursor: place[0] == cursor[0] and place[1] >= cursor[1])

    def test_up_to_the_cursor(self):
        self.check_each((1,), lambda place, cursor: place[0] == cursor[0] and place[1] <= cursor[1])

    def test_the_whole_row(self):
        self.check_each((2,), lambda place, cursor: place[0] == cursor[0])

    def test_on_to_the_end_of_the_picture(self):
        self.check_each((3,), lambda place, cursor: place >= cursor)

    def test_from_the_beginning_of_the_picture(self):
        self.check_each((4,), lambda place, cursor: place <= cursor)

    def test_all(self):
        self.check_each((5,), lambda place, cursor: True)

    def test_other_numbers_wipe_nothing(self):
        for way in (6, 7, 8, 9, 10, 100, 999):
            for row, column in ((0, 0), (1, 3), (3, 8)):
                self.check(way, row, column, [])

    def test_by_name(self):
        self.check(0, 1, 7, [(1, 7), (1, 8)])
        self.check(1, 2, 1, [(2, 0), (2, 1)])
        self.check(3, 3, 7, [(3, 7), (3, 8)])
        self.check(3, 2, 8, [(2, 8)] + [(3, column) for column in range(9)])
        self.check(4, 0, 1, [(0, 0), (0, 1)])
        self.check(4, 1, 0, [(0, column) for column in range(9)] + [(1, 0)])

    def test_the_blanks_have_the_ink_of_then(self):
        for ink in (0, 64, 511):
            state = windowed(2, 2, (0, 0, 0, 0), ink=ink)
            wipe(state, 5)
            self.assertEqual(state.picture, [[(" ", ink)] * 2] * 2)

    def test_a_picture_of_one_cell(self):
        for way in (None, 0, 1, 2, 3, 4, 5):
            state = windowed(1, 1, (0, 0, 0, 0), ink=INK, late=True)
            self.check_done(wipe, state, way, picture=[[BLANK]], late=False)
        state = windowed(1, 1, (0, 0, 0, 0), ink=INK, late=True)
        self.check_done(wipe, state, 6, late=False)


if __name__ == "__main__":
    unittest.main()
