"""deeds.py: promise [22], and what [4], [9] and [21] say of the numbers of a row."""

import copy
import unittest

from signscreen.deeds import Deed, Line, Row, Sign, Tab, deed_of
from signscreen.going import back_tab, go, on_tab, set_stop, take_stop, take_stops, to_left_edge, to_place
from signscreen.keeping import asked, begin_anew, keep, take_back
from signscreen.reader import Reader
from signscreen.rolling import cut_lines, put_lines, roll
from signscreen.setting import dye, set_columns, set_rows, turn_modes
from signscreen.state import State
from signscreen.wiping import cut_cells, put_cells, wipe, wipe_cells
from signscreen.writing import again, line_end, put_sign
from tests.drawn import DEED_LETTERS, LETTERS
from tests.states import SIGNS, StateCase, cell_at, changed_picture, fields_of, made, windowed

WINDOW = (2, 4, 3, 6)
# What a letter is to do, by how many numbers its deed has.
ALONE = {
    "h": to_left_edge,
    "t": set_stop,
    "T": take_stop,
    "U": take_stops,
    "v": keep,
    "z": take_back,
    "Z": begin_anew,
}
OF_ONE = {
    "u": lambda state, many: go(state, "u", many),
    "d": lambda state, many: go(state, "d", many),
    "l": lambda state, many: go(state, "l", many),
    "r": lambda state, many: go(state, "r", many),
    "y": on_tab,
    "Y": back_tab,
    "p": again,
    "i": put_lines,
    "k": cut_lines,
    "s": put_cells,
    "x": cut_cells,
    "e": wipe_cells,
    "w": wipe,
    "R": lambda state, many: roll(state, "R", many),
    "D": lambda state, many: roll(state, "D", many),
}
OF_TWO = {"g": to_place, "m": set_rows, "M": set_columns}
OF_ALL = {
    "c": dye,
    "o": lambda state, numbers: turn_modes(state, numbers, True),
    "f": lambda state, numbers: turn_modes(state, numbers, False),
}
NUMBERS = (None, 0, 1, 2, 3, 5, 999)
NO_DEEDS = [letter for letter in LETTERS if letter not in DEED_LETTERS]


def states():
    """States in which each deed has something to do, and their likes that are late."""
    found = []
    for late in (False, True):
        for row, column, home in ((3, 4, False), (4, 6, True), (6, 8, True), (1, 2, False)):
            state = windowed(9, 7, WINDOW, row=row, column=column, home=home, late=late, ink=67, last="x")
            keep(state)
            state.row = 6 - row
            state.ink = 5
            found.append(state)
        found.append(State(9, 7))
        found[-1].late = late
    return found


def ended_by(deed, state, given):
    twin = copy.deepcopy(state)
    deed(twin, *given)
    return fields_of(twin)


class DeedCase(StateCase):
    def check_deed(self, deed, state, ended, answers=()):
        """Doing it tells these answers, in a list, and the state ends so; doing it changes no field of the deed."""
        words = (vars(deed), fields_of(state))
        ahead = copy.deepcopy(vars(deed))
        told = deed.do(state)
        self.assertIs(type(told), list, words)
        self.assertEqual(told, list(answers), words)
        self.assertEqual(fields_of(state), ended, words)
        self.assertEqual(vars(deed), ahead, words)
        self.check_form(state)

    def check_nothing(self, deed):
        for state in states():
            self.check_deed(deed, state, fields_of(state))


class FormTest(DeedCase):
    def test_all_stand_straight_under_deed(self):
        for kind in (Sign, Line, Tab, Row):
            self.assertEqual(kind.__bases__, (Deed,))
        self.assertEqual(Deed.__bases__, (object,))

    def test_a_deed_by_itself(self):
        self.check_nothing(Deed())
        self.assertEqual(Deed().signs(), "")
        self.assertIs(type(Deed().signs()), str)

    def test_fields(self):
        self.assertEqual(Sign("a").sign, "a")
        row = Row("g", (3, None, 7))
        self.assertEqual((row.letter, row.numbers), ("g", (3, None, 7)))
        self.assertIs(type(row.numbers), tuple)

    def test_answers_are_the_askers_own(self):
        state = State(3, 2)
        for deed in (Deed(), Sign("a"), Line(), Tab(), Row("u", (1,)), Row("q", (9,)), Row("b", (1,)), Row("q", (2,))):
            told = deed.do(state)
            expected = list(told)
            told.append("x")
            self.assertEqual(deed.do(state), expected)


class DeedOfTest(unittest.TestCase):
    def check_of(self, read, kind, **fields):
        deed = deed_of(read)
        self.assertIs(type(deed), kind, read)
        for name, value in fields.items():
            self.assertEqual(getattr(deed, name), value, read)
            self.assertIs(type(getattr(deed, name)), type(value), read)

    def test_signs(self):
        for sign in SIGNS + [" "]:
            self.check_of(("sign", sign), Sign, sign=sign)

    def test_lines_and_tabs(self):
        self.check_of(("line",), Line)
        self.check_of(("tab",), Tab)

    def test_rows(self):
        for letter in LETTERS:
            for numbers in ((None,), (0,), (3, None, 7), (999,) * 6, (None,) * 6):
                self.check_of(("row", letter, numbers), Row, letter=letter, numbers=numbers)

    def test_each_thing_that_a_reader_tells(self):
        read = Reader().read("a~~\t\n~u~3;;7g~b ")
        kinds = [type(deed_of(thing)) for thing in read]
        self.assertEqual(kinds, [Sign, Sign, Tab, Line, Row, Row, Row, Sign])


class DoTest(DeedCase):
    def test_signs(self):
        for sign in ("a", " ", "~", "!", "0", ";", "u"):
            for state in states():
                self.check_deed(Sign(sign), state, ended_by(put_sign, state, (sign,)))

    def test_lines_and_tabs(self):
        for state in states():
            self.check_deed(Line(), copy.deepcopy(state), ended_by(line_end, state, ()))
            self.check_deed(Tab(), state, ended_by(on_tab, state, (1,)))

    def test_deeds_without_numbers(self):
        for letter, deed in ALONE.items():
            for numbers in ((None,), (0,), (3,), (3, 4), (9, 8, 7, 6, 5, 4)):
                for state in states():
                    self.check_deed(Row(letter, numbers), state, ended_by(deed, state, ()))

    def test_deeds_of_one_number(self):
        for letter, deed in OF_ONE.items():
            for number in NUMBERS:
                for more in ((), (4,), (None, 2, 3, 4, 5)):
                    for state in states():
                        self.check_deed(Row(letter, (number,) + more), state, ended_by(deed, state, (number,)))

    def test_deeds_of_two_numbers(self):
        for letter, deed in OF_TWO.items():
            for first in NUMBERS:
                for state in states():
                    self.check_deed(Row(letter, (first,)), state, ended_by(deed, state, (first, None)))
                for second in NUMBERS:
                    for more in ((), (4,), (None, 2, 3, 4)):
                        state = windowed(9, 7, WINDOW, row=6, column=1, late=True)
                        self.check_deed(
                            Row(letter, (first, second) + more), state, ended_by(deed, state, (first, second))
                        )

    def test_deeds_of_all_numbers(self):
        rows = [(number,) for number in range(30)]
        rows += [(None,), (1, 2, 3), (3, 1), (13, 25, 7, 1), (0, 1, 2, 3, 17, 27), (2, None), (1, 1, 3, 4, 9, 2)]
        for letter, deed in OF_ALL.items():
            for numbers in rows:
                for state in states():
                    self.check_deed(Row(letter, numbers), state, ended_by(deed, state, (numbers,)))

    def test_asking(self):
        for numbers in ((None,), (0,), (1,), (2,), (3,), (4,), (1, 2, 3, None, 9, 0)):
            for state in states():
                self.check_deed(Row("q", numbers), state, fields_of(state), asked(state, numbers))
        state = windowed(9, 7, WINDOW, row=0, column=8, ink=64, home=True, late=True)
        self.check_deed(Row("q", (3, 1, 4, 2)), state, fields_of(state), ["bold", "-1;6", "9x7"])

    def test_all_letters_are_looked_at(self):
        self.assertEqual(sorted([*ALONE, *OF_ONE, *OF_TWO, *OF_ALL, "q"]), sorted(DEED_LETTERS))
        self.assertEqual(len(NO_DEEDS), 52 - 29)

    def test_letters_that_are_no_deeds(self):
        for letter in NO_DEEDS:
            for numbers in ((None,), (0,), (1,), (2, 3), (1, 2, 3, 4, 5, 6)):
                self.check_nothing(Row(letter, numbers))

    def test_twice_is_done_twice(self):
        state = State(9, 7)
        deed = Row("r", (2,))
        deed.do(state)
        deed.do(state)
        other = State(9, 7)
        deed.do(other)
        self.assertEqual((state.column, other.column), (4, 2))


class WordsTest(DeedCase):
    """Each letter once, by the document's own words."""

    def check_row(self, letter, numbers, state, **changes):
        ended = dict(fields_of(state), late=False)
        ended.update(changes)
        self.check_deed(Row(letter, numbers), state, ended)

    def at(self, row, column, **fields):
        return made(9, 7, row=row, column=column, late=True, ink=5, last="x", **fields)

    def test_going(self):
        self.check_row("u", (2,), self.at(5, 5), row=3)
        self.check_row("d", (None,), self.at(5, 5), row=6)
        self.check_row("l", (0,), self.at(5, 5), column=4)
        self.check_row("r", (99,), self.at(5, 5), column=8)
        self.check_row("h", (None,), self.at(5, 5), column=0)
        self.check_row("g", (2, 3, 4), self.at(5, 5), row=1, column=2)
        self.check_row("g", (2,), self.at(5, 5), row=1, column=0)
        self.check_row("g", (None,), self.at(5, 5), row=0, column=0)
        self.check_row("y", (1,), self.at(5, 5), column=8)
        self.check_row("Y", (2,), self.at(5, 5), column=0)

    def test_stops(self):
        self.check_row("t", (None,), self.at(5, 5), stops={4: True, 8: True, 5: True}, late=True)
        self.check_row("T", (None,), self.at(5, 4), stops={8: True}, late=True)
        self.check_row("U", (None,), self.at(5, 5), stops={}, late=True)

    def test_setting(self):
        self.check_row("m", (2, 3), self.at(5, 5), top=1, bottom=2, row=0, column=0)
        self.check_row("M", (2,), self.at(5, 5), left=1, row=0, column=0)
        self.check_row("m", (3, 2), self.at(5, 5), late=True)
        self.check_row("c", (1, 13), self.at(5, 5), ink=67, late=True)
        self.check_row("o", (2,), self.at(5, 5), putting=True, late=True)
        self.check_row("f", (1,), self.at(5, 5), wrap=False, late=True)
        self.check_row("o", (3,), self.at(5, 5), home=True, row=0, column=0)
        self.check_row("f", (3,), self.at(5, 5), row=0, column=0)

    def test_writing(self):
        state = self.at(5, 5)
        state.late = False
        picture = changed_picture(9, 7, {(5, 5): ("x", 5), (5, 6): ("x", 5)})
        self.check_row("p", (2,), state, picture=picture, column=7)
        state = self.at(5, 5)
        state.last = None
        self.check_row("p", (2,), state, late=True)

    def test_lines(self):
        below = {(row, column): (row + 1, column) for row in range(5, 6) for column in range(9)}
        blanks = {(6, column): (" ", 5) for column in range(9)}
        self.check_row("k", (None,), self.at(5, 5), picture=changed_picture(9, 7, {**below, **blanks}))
        above = {(row, column): (row - 1, column) for row in range(6, 7) for column in range(9)}
        blanks = {(5, column): (" ", 5) for column in range(9)}
        self.check_row("i", (1,), self.at(5, 5), picture=changed_picture(9, 7, {**above, **blanks}))

    def test_rolling(self):
        picture = [[cell_at(row + 2, column) for column in range(9)] for row in range(5)]
        blanks = [[(" ", 5)] * 9 for row in range(2)]
        self.check_row("R", (2,), self.at(5, 5), picture=picture + blanks)
        picture = [[cell_at(row, column) for column in range(9)] for row in range(5)]
        self.check_row("D", (2,), self.at(5, 5), picture=blanks + picture)

    def test_cells(self):
        moved = {(5, 5): (" ", 5), (5, 6): (" ", 5), (5, 7): (5, 5), (5, 8): (5, 6)}
        self.check_row("s", (2,), self.at(5, 5), picture=changed_picture(9, 7, moved))
        moved = {(5, 5): (5, 7), (5, 6): (5, 8), (5, 7): (" ", 5), (5, 8): (" ", 5)}
        self.check_row("x", (2,), self.at(5, 5), picture=changed_picture(9, 7, moved))
        wiped = {(5, 5): (" ", 5), (5, 6): (" ", 5)}
        self.check_row("e", (2,), self.at(5, 5), picture=changed_picture(9, 7, wiped))

    def test_wiping(self):
        row = {(5, column): (" ", 5) for column in range(9)}
        self.check_row("w", (2,), self.at(5, 5), picture=changed_picture(9, 7, row))
        behind = {place: cell for place, cell in row.items() if place[1] >= 5}
        self.check_row("w", (None,), self.at(5, 5), picture=changed_picture(9, 7, behind))
        self.check_row("w", (6,), self.at(5, 5))

    def test_keeping(self):
        state = self.at(5, 5)
        Row("v", (None,)).do(state)
        self.assertEqual((len(state.kept), state.late), (1, True))
        Row("g", (1, 1)).do(state)
        Row("z", (None,)).do(state)
        self.assertEqual((len(state.kept), state.row, state.column, state.late), (0, 5, 5, True))
        self.check_row("Z", (None,), self.at(5, 5), **fields_of(State(9, 7)))


class SignsTest(unittest.TestCase):
    def check_signs(self, deed, text, read):
        """It tells this text, of which a reader reads just this one thing, with no row open ahead or behind."""
        told = deed.signs()
        self.assertEqual(told, text)
        self.assertIs(type(told), str)
        reader = Reader()
        self.assertEqual(reader.read(told), [read])
        self.assertEqual(reader.open_row(), "")
        again_read = deed_of(read)
        self.assertIs(type(again_read), type(deed))
        self.assertEqual(vars(again_read), vars(deed))
        self.assertEqual(again_read.signs(), text)

    def test_signs(self):
        for sign in SIGNS[:-1] + [" "]:
            self.check_signs(Sign(sign), sign, ("sign", sign))
        self.check_signs(Sign("~"), "~~", ("sign", "~"))

    def test_lines_and_tabs(self):
        self.check_signs(Line(), "\n", ("line",))
        self.check_signs(Tab(), "\t", ("tab",))

    def test_rows(self):
        rows = (
            ((None,), ""),
            ((0,), "0"),
            ((7,), "7"),
            ((12,), "12"),
            ((999,), "999"),
            ((3, None, 7), "3;;7"),
            ((None, None), ";"),
            ((1, None), "1;"),
            ((None, 1), ";1"),
            ((None,) * 6, ";;;;;"),
            ((1, 2, 3, 4, 5, 6), "1;2;3;4;5;6"),
            ((999,) * 6, "999;999;999;999;999;999"),
            ((0, 0), "0;0"),
        )
        for letter in LETTERS:
            for numbers, body in rows:
                self.check_signs(Row(letter, numbers), "~" + body + letter, ("row", letter, numbers))

    def test_each_number(self):
        for number in range(1000):
            self.check_signs(Row("g", (number, None)), f"~{number};g", ("row", "g", (number, None)))

    def test_several_behind_one_another(self):
        deeds = [Sign("~"), Row("u", (None,)), Sign("3"), Sign("~"), Sign("~"), Line(), Row("g", (3, None, 7)), Tab()]
        text = "".join(deed.signs() for deed in deeds)
        self.assertEqual(text, "~~~u3~~~~\n~3;;7g\t")
        self.assertEqual([vars(deed_of(read)) for read in Reader().read(text)], [vars(deed) for deed in deeds])


if __name__ == "__main__":
    unittest.main()
