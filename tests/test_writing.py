"""writing.py: promises [13] and [14], and what [1], [9] and [11] say of them."""

import unittest

from signscreen.going import go, to_place
from signscreen.setting import dye, set_columns, set_rows, turn_modes
from signscreen.state import State
from signscreen.writing import again, line_end, put_sign
from tests.states import SIGNS, StateCase, changed_picture, fields_of, windowed

INK = 300
BLANK = (" ", INK)
# Rows 1 to 3 and columns 2 to 5, of a picture of 9 by 6.
WINDOW = (1, 3, 2, 5)
WIDE = 9
HIGH = 6
NEW = ("@", INK)


def placed(row, column, **fields):
    return windowed(WIDE, HIGH, WINDOW, row=row, column=column, ink=INK, **fields)


def with_cells(cells):
    return changed_picture(WIDE, HIGH, cells)


def rolled_cells(cells):
    """The window rolled up by one, and then these cells."""
    told = {}
    for column in (2, 3, 4, 5):
        told.update({(1, column): (2, column), (2, column): (3, column), (3, column): BLANK})
    told.update(cells)
    return told


class LineEndTest(StateCase):
    def check(self, row, column, reached, cells):
        picture = with_cells(cells)
        for late in (False, True):
            for wrap in (False, True):
                state = placed(row, column, late=late, wrap=wrap)
                self.check_done(line_end, state, row=reached[0], column=reached[1], late=False, picture=picture)
        state = placed(row, column, late=True, putting=True, home=True, last="x")
        self.check_done(line_end, state, row=reached[0], column=reached[1], late=False, picture=picture)

    # What the left edge is, by the cursor's column.
    EDGES = {0: 0, 1: 0, 2: 2, 3: 2, 5: 2, 6: 2, 8: 2}

    def test_above_the_windows_bottom_row_it_goes_down(self):
        for row in (0, 1, 2):
            for column, left in self.EDGES.items():
                self.check(row, column, (row + 1, left), {})

    def test_at_the_windows_bottom_row_it_rolls_whatever_the_column(self):
        for column, left in self.EDGES.items():
            self.check(3, column, (3, left), rolled_cells({}))

    def test_below_the_window_it_goes_down(self):
        for column, left in self.EDGES.items():
            self.check(4, column, (5, left), {})

    def test_in_the_pictures_last_row_it_stays(self):
        for column, left in self.EDGES.items():
            self.check(5, column, (5, left), {})

    def test_the_windows_bottom_row_may_be_the_pictures_last(self):
        cells = {}
        for column in (2, 3):
            cells.update({(0, column): (1, column), (1, column): (2, column), (2, column): BLANK})
        for column, left in ((0, 0), (1, 0), (2, 2), (3, 2), (4, 2)):
            state = windowed(5, 3, (0, 2, 2, 3), row=2, column=column, ink=INK, late=True)
            picture = changed_picture(5, 3, cells)
            self.check_done(line_end, state, row=2, column=left, late=False, picture=picture)

    def test_a_window_of_one_row(self):
        for row, reached in ((0, 1), (2, 3), (3, 3)):
            state = windowed(3, 4, (1, 1, 0, 2), row=row, column=1, ink=INK)
            self.check_done(line_end, state, row=reached, column=0)
        state = windowed(3, 4, (1, 1, 0, 2), row=1, column=1, ink=INK)
        picture = changed_picture(3, 4, {(1, 0): BLANK, (1, 1): BLANK, (1, 2): BLANK})
        self.check_done(line_end, state, column=0, picture=picture)

    def test_a_picture_of_one_cell(self):
        state = windowed(1, 1, (0, 0, 0, 0), ink=INK, late=True)
        self.check_done(line_end, state, late=False, picture=[[BLANK]])


class PutSignTest(StateCase):
    def check(self, place, reached, late_then, cells, **fields):
        """late_then is whether late is on behind it with the mode wrap."""
        state = placed(place[0], place[1], **fields)
        changes = {"row": reached[0], "column": reached[1], "last": "@", "picture": with_cells(cells)}
        self.check_done(put_sign, state, "@", late=late_then and state.wrap, **changes)

    def check_kinds(self, place, reached, late_then, cells, **fields):
        for home in (False, True):
            for last in (None, "x", "@"):
                self.check(place, reached, late_then, cells, home=home, last=last, **fields)

    def test_each_sign_is_written(self):
        for sign in SIGNS + [" "]:
            state = placed(2, 3)
            picture = with_cells({(2, 3): (sign, INK)})
            self.check_done(put_sign, state, sign, column=4, last=sign, picture=picture)

    def test_the_ink_is_the_states(self):
        for ink in (0, 1, 64, 511):
            state = State(2, 1)
            state.ink = ink
            put_sign(state, "a")
            self.assertEqual(state.picture, [[("a", ink), (" ", 0)]])

    def test_inside_the_window(self):
        for wrap in (False, True):
            for row in range(HIGH):
                for column in (2, 3, 4):
                    self.check_kinds((row, column), (row, column + 1), False, {(row, column): NEW}, wrap=wrap)

    def test_left_of_the_window(self):
        for wrap in (False, True):
            for row in range(HIGH):
                for column in (0, 1):
                    self.check_kinds((row, column), (row, column + 1), False, {(row, column): NEW}, wrap=wrap)

    def test_at_the_right_edge_it_stays(self):
        for wrap in (False, True):
            for row in range(HIGH):
                self.check_kinds((row, 5), (row, 5), True, {(row, 5): NEW}, wrap=wrap)

    def test_right_of_the_window(self):
        for wrap in (False, True):
            for row in range(HIGH):
                for column in (6, 7):
                    self.check_kinds((row, column), (row, column + 1), False, {(row, column): NEW}, wrap=wrap)

    def test_in_the_last_column_it_stays(self):
        for wrap in (False, True):
            for row in range(HIGH):
                self.check_kinds((row, 8), (row, 8), True, {(row, 8): NEW}, wrap=wrap)

    def test_late_without_wrap_is_made_off_and_no_line_ends(self):
        for row in range(HIGH):
            for column in (0, 2, 4, 6, 7):
                cells = {(row, column): NEW}
                self.check_kinds((row, column), (row, column + 1), False, cells, wrap=False, late=True)
            for column in (5, 8):
                self.check_kinds((row, column), (row, column), False, {(row, column): NEW}, wrap=False, late=True)

    def test_late_with_wrap_ends_the_line_first(self):
        for row in (0, 1, 2, 4):
            for column in (5, 6, 8, 3):
                self.check_kinds((row, column), (row + 1, 3), False, {(row + 1, 2): NEW}, late=True)
            for column in (0, 1):
                self.check_kinds((row, column), (row + 1, 1), False, {(row + 1, 0): NEW}, late=True)

    def test_late_at_the_windows_bottom_row_rolls_first(self):
        for column in (3, 5, 6, 8):
            self.check_kinds((3, column), (3, 3), False, rolled_cells({(3, 2): NEW}), late=True)
        for column in (0, 1):
            self.check_kinds((3, column), (3, 1), False, rolled_cells({(3, 0): NEW}), late=True)

    def test_late_in_the_pictures_last_row_stays_there(self):
        for column in (5, 6, 8):
            self.check_kinds((5, column), (5, 3), False, {(5, 2): NEW}, late=True)
        self.check_kinds((5, 1), (5, 1), False, {(5, 0): NEW}, late=True)

    def test_insert_moves_the_cells_to_the_right_edge(self):
        for wrap in (False, True):
            for row in range(HIGH):
                on = {"wrap": wrap, "putting": True}
                cells = {(row, 2): NEW, (row, 3): (row, 2), (row, 4): (row, 3), (row, 5): (row, 4)}
                self.check_kinds((row, 2), (row, 3), False, cells, **on)
                cells = {(row, 4): NEW, (row, 5): (row, 4)}
                self.check_kinds((row, 4), (row, 5), False, cells, **on)
                self.check_kinds((row, 5), (row, 5), True, {(row, 5): NEW}, **on)
                cells = {(row, 1): NEW}
                cells.update({(row, column): (row, column - 1) for column in (2, 3, 4, 5)})
                self.check_kinds((row, 1), (row, 2), False, cells, **on)
                cells = {(row, 6): NEW, (row, 7): (row, 6), (row, 8): (row, 7)}
                self.check_kinds((row, 6), (row, 7), False, cells, **on)
                self.check_kinds((row, 8), (row, 8), True, {(row, 8): NEW}, **on)

    def test_insert_behind_a_late_line_end(self):
        for row in (0, 1, 2, 4):
            below = row + 1
            cells = {(below, 2): NEW}
            cells.update({(below, column): (below, column - 1) for column in (3, 4, 5)})
            for column in (5, 8):
                self.check_kinds((row, column), (below, 3), False, cells, putting=True, late=True)
        self.check_kinds((3, 5), (3, 3), False, rolled_cells({(3, 2): NEW}), putting=True, late=True)

    def test_insert_and_late_without_wrap(self):
        self.check_kinds((2, 5), (2, 5), False, {(2, 5): NEW}, putting=True, late=True, wrap=False)
        cells = {(2, 4): NEW, (2, 5): (2, 4)}
        self.check_kinds((2, 4), (2, 5), False, cells, putting=True, late=True, wrap=False)

    def test_a_window_of_one_column(self):
        state = windowed(3, 3, (0, 1, 1, 1), column=1, ink=INK)
        self.check_done(put_sign, state, "a", late=True, last="a", picture=changed_picture(3, 3, {(0, 1): ("a", INK)}))
        picture = changed_picture(3, 3, {(0, 1): ("a", INK), (1, 1): ("b", INK)})
        self.check_done(put_sign, state, "b", row=1, late=True, last="b", picture=picture)
        picture = changed_picture(3, 3, {(0, 1): ("b", INK), (1, 1): ("c", INK)})
        self.check_done(put_sign, state, "c", row=1, late=True, last="c", picture=picture)

    def test_a_picture_of_one_cell(self):
        state = State(1, 1)
        self.check_done(put_sign, state, "a", late=True, last="a", picture=[[("a", 0)]])
        self.check_done(put_sign, state, "b", late=True, last="b", picture=[[("b", 0)]])

    def test_a_text_over_several_lines(self):
        state = State(3, 2)
        found = []
        for sign in "abcdefgh":
            put_sign(state, sign)
            found.append((lines_of(state), state.row, state.column, state.late))
        expected = [
            (["a  ", "   "], 0, 1, False),
            (["ab ", "   "], 0, 2, False),
            (["abc", "   "], 0, 2, True),
            (["abc", "d  "], 1, 1, False),
            (["abc", "de "], 1, 2, False),
            (["abc", "def"], 1, 2, True),
            (["def", "g  "], 1, 1, False),
            (["def", "gh "], 1, 2, False),
        ]
        self.assertEqual(found, expected)

    def test_going_makes_late_off(self):
        state = State(3, 2)
        for sign in "abc":
            put_sign(state, sign)
        go(state, "r", 1)
        put_sign(state, "d")
        self.assertEqual((lines_of(state), state.row, state.late), (["abd", "   "], 0, True))

    def test_wrap_turned_off_and_on_while_late(self):
        state = State(2, 2)
        for sign in "ab":
            put_sign(state, sign)
        turn_modes(state, (1,), False)
        turn_modes(state, (1,), True)
        self.assertIs(state.late, True)
        put_sign(state, "c")
        self.assertEqual(lines_of(state), ["ab", "c "])
        put_sign(state, "d")
        turn_modes(state, (1,), False)
        self.assertIs(state.late, True)
        put_sign(state, "e")
        self.assertEqual((lines_of(state), state.late), (["ab", "ce"], False))

    def test_a_window_set_by_its_own_deeds(self):
        state = State(6, 4)
        set_rows(state, 2, 3)
        set_columns(state, 2, 4)
        turn_modes(state, (3,), True)
        dye(state, (1,))
        for sign in "abcdefgh":
            put_sign(state, sign)
        self.assertEqual(lines_of(state), ["      ", " def  ", " gh   ", "      "])
        # The blank behind them came of the rolling, in the ink of then.
        self.assertEqual(state.picture[2], [(" ", 0), ("g", 64), ("h", 64), (" ", 64), (" ", 0), (" ", 0)])


def lines_of(state):
    return ["".join(sign for sign, ink in row) for row in state.picture]


class AgainTest(StateCase):
    def test_nothing_where_no_sign_was_written(self):
        for many in (None, 0, 1, 5, 999):
            for late in (False, True):
                for row, column in ((0, 0), (2, 5), (3, 5), (5, 8)):
                    self.check_done(again, placed(row, column, late=late), many)

    def test_once(self):
        for many in (None, 0, 1):
            picture = with_cells({(2, 3): NEW})
            self.check_done(again, placed(2, 3, last="@"), many, column=4, picture=picture)
            picture = with_cells({(2, 2): NEW})
            state = placed(1, 5, last="@", late=True)
            self.check_done(again, state, many, row=2, column=3, late=False, picture=picture)
            state = placed(1, 5, last="@")
            self.check_done(again, state, many, late=True, picture=with_cells({(1, 5): NEW}))

    def test_several_times(self):
        picture = with_cells({(2, 3): NEW, (2, 4): NEW})
        self.check_done(again, placed(2, 3, last="@"), 2, column=5, picture=picture)
        picture = with_cells({(2, 3): NEW, (2, 4): NEW, (2, 5): NEW})
        self.check_done(again, placed(2, 3, last="@"), 3, column=5, late=True, picture=picture)
        picture = with_cells({(2, 3): NEW, (2, 4): NEW, (2, 5): NEW, (3, 2): NEW})
        self.check_done(again, placed(2, 3, last="@"), 4, row=3, column=3, picture=picture)

    def test_without_wrap_it_stays_at_the_edge(self):
        picture = with_cells({(2, 4): NEW, (2, 5): NEW})
        self.check_done(again, placed(2, 4, last="@", wrap=False), 999, column=5, picture=picture)

    def test_with_insert(self):
        picture = with_cells({(2, 2): NEW, (2, 3): NEW, (2, 4): (2, 2), (2, 5): (2, 3)})
        self.check_done(again, placed(2, 2, last="@", putting=True), 2, column=4, picture=picture)

    def test_the_most_times_fill_the_window(self):
        cells = {(row, column): NEW for row in (1, 2, 3) for column in (2, 3, 4, 5)}
        # 999 signs in rows of four: the last row has three of them.
        cells[(3, 5)] = BLANK
        state = placed(1, 2, last="@")
        self.check_done(again, state, 999, row=3, column=5, picture=with_cells(cells))

    def test_as_the_signs_one_by_one(self):
        for many in (1, 2, 3, 7, 30):
            for row in range(HIGH):
                for column in range(WIDE):
                    for late in (False, True):
                        one = placed(row, column, late=late, last="@")
                        again(one, many)
                        other = placed(row, column, late=late, last="@")
                        for turn in range(many):
                            put_sign(other, "@")
                        self.assertEqual(fields_of(one), fields_of(other), (many, row, column, late))

    def test_the_last_sign_is_the_one_written_last(self):
        state = State(8, 2)
        put_sign(state, "a")
        put_sign(state, "b")
        again(state, 2)
        self.assertEqual((lines_of(state)[0], state.last), ("abbb    ", "b"))
        put_sign(state, " ")
        again(state, 1)
        put_sign(state, "~")
        again(state, None)
        self.assertEqual((lines_of(state)[0], state.last), ("abbb  ~~", "~"))

    def test_other_deeds_leave_the_last_sign(self):
        state = State(4, 2)
        put_sign(state, "a")
        line_end(state)
        to_place(state, 2, 2)
        dye(state, (1,))
        again(state, 2)
        self.assertEqual(lines_of(state), ["a   ", " aa "])
        self.assertEqual(state.picture[1], [(" ", 0), ("a", 64), ("a", 64), (" ", 0)])


if __name__ == "__main__":
    unittest.main()
