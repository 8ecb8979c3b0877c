"""keeping.py: promises [20] and [21], and what [1] and [9] say of them."""

import unittest

from signscreen.going import go, set_stop, take_stops, to_place
from signscreen.inks import ink_by_text, ink_text
from signscreen.keeping import asked, begin_anew, keep, take_back
from signscreen.setting import dye, set_columns, set_rows, turn_modes
from signscreen.state import State
from signscreen.writing import put_sign
from tests.states import FIELDS, StateCase, all_places, fields_of, made, windowed

KEPT = ("row", "column", "late", "ink", "wrap", "putting", "home")
THEN = {"row": 3, "column": 4, "late": True, "ink": 67, "wrap": False, "putting": True, "home": True}
NOW = {"row": 1, "column": 2, "late": False, "ink": 5, "wrap": True, "putting": False, "home": False}


def truths():
    return [(bool(number & 1), bool(number & 2), bool(number & 4), bool(number & 8)) for number in range(16)]


class KeepingTest(StateCase):
    def keep_alone(self, state):
        """Keeping tells None and changes what is kept alone."""
        ahead = fields_of(state)
        self.assertIsNone(keep(state))
        behind = fields_of(state)
        for name in FIELDS:
            if name != "kept":
                self.assertEqual(behind[name], ahead[name], name)
        self.check_form(state)

    def check_kept(self, state, then):
        """The last kept ones come back, and the others stay as they are now."""
        many = len(state.kept)
        left = fields_of(state)["kept"][:-1]
        self.check_done(take_back, state, kept=left, **then)
        self.assertEqual(len(state.kept), many - 1)

    def test_keeping_changes_nothing_else(self):
        for late, wrap, putting, home in truths():
            state = windowed(9, 7, (2, 4, 3, 6), row=6, column=8, late=late, wrap=wrap, putting=putting, home=home)
            self.keep_alone(state)
            self.assertEqual(len(state.kept), 1)

    def test_all_four_come_back(self):
        state = made(9, 7, **THEN)
        self.keep_alone(state)
        for name, value in NOW.items():
            setattr(state, name, value)
        self.check_kept(state, THEN)

    def test_each_comes_back_by_itself(self):
        for name in KEPT:
            state = made(9, 7, **THEN)
            self.keep_alone(state)
            setattr(state, name, NOW[name])
            self.check_kept(state, THEN)
            state = made(9, 7, **NOW)
            self.keep_alone(state)
            setattr(state, name, THEN[name])
            self.check_kept(state, NOW)

    def test_late_and_modes_of_all_sorts(self):
        for then in truths():
            for now in truths():
                names = ("late", "wrap", "putting", "home")
                state = made(4, 3, **dict(zip(names, then)))
                keep(state)
                for name, value in zip(names, now):
                    setattr(state, name, value)
                self.check_kept(state, dict(zip(names, then)))

    def test_each_place_and_many_inks(self):
        for row, column in all_places(5, 4):
            for ink in (0, 1, 64, 511):
                state = made(5, 4, row=row, column=column, ink=ink)
                keep(state)
                to_place(state, 2, 3)
                dye(state, (17, 2))
                self.check_kept(state, {"row": row, "column": column, "ink": ink})

    def test_window_stops_and_last_sign_stay_as_they_are_now(self):
        state = made(9, 7, row=6, column=8, last="x")
        keep(state)
        set_rows(state, 2, 3)
        set_columns(state, 4, 6)
        take_stops(state)
        set_stop(state)
        put_sign(state, "y")
        state.picture[5][5] = ("!", 9)
        now = fields_of(state)
        self.check_kept(state, {"row": 6, "column": 8})
        self.assertEqual((state.top, state.bottom, state.left, state.right), (1, 2, 3, 5))
        self.assertEqual((state.stops, state.last, state.picture), ({0: True}, "y", now["picture"]))

    def test_the_cursor_comes_back_where_the_window_is_elsewhere(self):
        state = made(9, 7, row=6, column=8, home=True, late=True)
        keep(state)
        set_rows(state, 1, 2)
        set_columns(state, 1, 2)
        self.check_kept(state, {"row": 6, "column": 8, "home": True, "late": True})

    def test_nothing_where_none_are_kept(self):
        for late in (False, True):
            self.check_done(take_back, windowed(9, 7, (2, 4, 3, 6), **dict(THEN, late=late)))
            self.check_done(take_back, made(9, 7, **dict(NOW, late=late)))
        state = made(9, 7, **THEN)
        keep(state)
        take_back(state)
        state.late = False
        self.check_done(take_back, state)

    def test_several_the_last_one_first(self):
        state = made(9, 7)
        for row in (1, 4, 2):
            state.row = row
            keep(state)
        state.row = 0
        for row in (2, 4, 1):
            self.check_kept(state, {"row": row})
        self.check_done(take_back, state)

    def test_keeping_between_taking_back(self):
        state = made(9, 7, column=1)
        keep(state)
        state.column = 2
        keep(state)
        self.check_kept(state, {"column": 2})
        state.column = 3
        keep(state)
        state.column = 4
        self.check_kept(state, {"column": 3})
        self.check_kept(state, {"column": 1})

    def test_the_same_kept_twice(self):
        state = made(9, 7, column=5)
        keep(state)
        keep(state)
        self.assertEqual(len(state.kept), 2)
        state.column = 0
        self.check_kept(state, {"column": 5})
        state.column = 0
        self.check_kept(state, {"column": 5})

    def test_eight_nine_and_more(self):
        for many in (7, 8, 9, 10, 16, 17, 20):
            state = made(24, 2)
            for column in range(many):
                state.column = column
                self.keep_alone(state)
                self.assertEqual(len(state.kept), min(column + 1, 8), many)
            state.column = 23
            for column in range(many - 1, max(many - 9, -1), -1):
                self.check_kept(state, {"column": column})
            self.check_done(take_back, state)

    def test_nine_then_room_again(self):
        state = made(24, 2)
        for column in range(9):
            state.column = column
            keep(state)
        self.check_kept(state, {"column": 8})
        state.column = 20
        keep(state)
        self.assertEqual(len(state.kept), 8)
        state.column = 0
        self.check_kept(state, {"column": 20})
        for column in (7, 6, 5, 4, 3, 2, 1):
            self.check_kept(state, {"column": column})
        self.check_done(take_back, state)

    def test_what_is_kept_does_not_change(self):
        state = made(9, 7)
        turn_modes(state, (2,), True)
        keep(state)
        go(state, "r", 3)
        turn_modes(state, (2,), False)
        dye(state, (1,))
        self.check_kept(state, {"column": 0, "putting": True, "ink": 0})


class BeginAnewTest(StateCase):
    def check_anew(self, state):
        first = fields_of(State(state.wide, state.high))
        self.check_done(begin_anew, state, **first)

    def test_all_as_at_first(self):
        for wide, high in ((1, 1), (24, 12), (1, 12), (24, 1), (9, 7), (4, 3), (5, 5)):
            self.check_anew(State(wide, high))
            self.check_anew(made(wide, high))

    def test_each_field(self):
        changes = (
            {"row": 3},
            {"column": 4},
            {"late": True},
            {"ink": 511},
            {"wrap": False},
            {"putting": True},
            {"home": True},
            {"top": 2},
            {"bottom": 5},
            {"left": 3},
            {"right": 6},
            {"stops": {}},
            {"stops": {1: True, 8: True}},
            {"last": "x"},
        )
        for fields in changes:
            self.check_anew(made(9, 7, **fields))

    def test_all_fields_at_once(self):
        state = windowed(9, 7, (2, 4, 3, 6), last="x", **THEN)
        keep(state)
        keep(state)
        take_stops(state)
        self.check_anew(state)
        self.check_done(take_back, state)

    def test_the_blanks_are_plain(self):
        state = made(9, 7, ink=511)
        begin_anew(state)
        self.assertEqual(state.picture, [[(" ", 0)] * 9 for row in range(7)])

    def test_its_rows_are_its_own(self):
        state = made(9, 7)
        begin_anew(state)
        state.picture[2][3] = ("x", 4)
        self.assertEqual(sum(row.count(("x", 4)) for row in state.picture), 1)
        other = State(9, 7)
        self.assertEqual(other.picture[2][3], (" ", 0))

    def test_anew_and_on(self):
        state = made(9, 7, ink=3, last="z", row=6, column=8, late=True)
        begin_anew(state)
        put_sign(state, "a")
        self.assertEqual(state.picture[0], [("a", 0)] + [(" ", 0)] * 8)
        self.assertEqual((state.row, state.column, state.last), (0, 1, "a"))
        set_stop(state)
        begin_anew(state)
        self.assertEqual(fields_of(state), fields_of(State(9, 7)))


class AskedTest(StateCase):
    def check_asked(self, state, numbers, answers):
        ahead = fields_of(state)
        told = asked(state, numbers)
        self.assertEqual(told, answers, numbers)
        self.assertIs(type(told), list)
        for answer in told:
            self.assertIs(type(answer), str)
        self.assertEqual(fields_of(state), ahead, numbers)
        self.check_form(state)

    def test_the_place_counted_from_one(self):
        for number in (None, 0, 1):
            for row, column in all_places(12, 4):
                self.check_asked(made(12, 4, row=row, column=column), (number,), [f"{row + 1};{column + 1}"])

    def test_the_place_looks_at_no_window_without_home(self):
        for row, column in all_places(9, 7):
            state = windowed(9, 7, (2, 4, 3, 6), row=row, column=column)
            self.check_asked(state, (1,), [f"{row + 1};{column + 1}"])

    def test_in_the_mode_home_from_the_window_on(self):
        for number in (None, 0, 1):
            state = windowed(9, 7, (2, 4, 3, 6), row=2, column=3, home=True)
            self.check_asked(state, (number,), ["1;1"])
            state = windowed(9, 7, (2, 4, 3, 6), row=4, column=6, home=True)
            self.check_asked(state, (number,), ["3;4"])
            state = windowed(9, 7, (2, 4, 3, 6), row=6, column=8, home=True)
            self.check_asked(state, (number,), ["5;6"])

    def test_nought_and_below(self):
        answers = {(1, 2): "0;0", (0, 0): "-1;-2", (1, 3): "0;1", (2, 2): "1;0", (0, 8): "-1;6", (6, 1): "5;-1"}
        for (row, column), answer in answers.items():
            state = windowed(9, 7, (2, 4, 3, 6), row=row, column=column, home=True)
            self.check_asked(state, (1,), [answer])
        state = windowed(24, 12, (11, 11, 23, 23), row=0, column=0, home=True)
        self.check_asked(state, (0,), ["-10;-22"])

    def test_the_size(self):
        for wide, high in ((1, 1), (24, 12), (9, 7), (1, 12), (24, 1)):
            self.check_asked(made(wide, high), (2,), [f"{wide}x{high}"])
        self.check_asked(windowed(9, 7, (2, 4, 3, 6), home=True), (2,), ["9x7"])

    def test_the_ink(self):
        for ink in range(512):
            self.check_asked(made(2, 2, ink=ink), (3,), [ink_text(ink)])
        self.check_asked(made(2, 2), (3,), ["plain"])
        self.check_asked(made(2, 2, ink=ink_by_text("bold turned fore 3")), (3,), ["bold turned fore 3"])

    def test_others_tell_nothing(self):
        for number in (4, 5, 9, 10, 11, 12, 13, 100, 999):
            self.check_asked(made(9, 7, late=True), (number,), [])

    def test_several_in_order(self):
        state = made(9, 7, row=2, column=5, ink=64, late=True)
        self.check_asked(state, (1, 2, 3), ["3;6", "9x7", "bold"])
        self.check_asked(state, (3, 2, 1), ["bold", "9x7", "3;6"])
        self.check_asked(state, (2, 2, 4, None, 999, 0), ["9x7", "9x7", "3;6", "3;6"])
        self.check_asked(state, (4, 5, 6), [])
        self.check_asked(state, (None,) * 6, ["3;6"] * 6)

    def test_the_answers_are_the_askers_own(self):
        state = made(9, 7)
        told = asked(state, (2,))
        told.append("x")
        self.check_asked(state, (2,), ["9x7"])
        self.assertEqual(told, ["9x7", "x"])
        nothing = asked(state, (9,))
        nothing.append("x")
        self.check_asked(state, (9,), [])


if __name__ == "__main__":
    unittest.main()
