"""Promise [1] over the whole program, and the interface: everything is there under its name."""

import copy
import importlib
import inspect
import unittest

from signscreen.cells import blank_picture, blank_row, copied, need_picture, unlike_cells
from signscreen.deeds import Row, Sign, deed_of
from signscreen.errors import BadInk, BadPaper, BadPicture, BadSize, ScreenError, Unlike
from signscreen.inks import ink_by_text
from signscreen.keeping import asked
from signscreen.lines import stretches, worth_of_line, writings
from signscreen.papers import paper_of, picture_of
from signscreen.reader import Reader
from signscreen.screen import Screen
from signscreen.setting import dye, turn_modes
from signscreen.state import State
from signscreen.teller import leads, signs_of
from signscreen.ways import least_way, least_worth, way_done
from tests.model import told_by
from tests.states import FIELDS, full_picture

FUNCTIONS = {
    "inks": (
        "is_ink(thing)",
        "fore_of(ink)",
        "back_of(ink)",
        "marks_of(ink)",
        "ink_of(fore, back, marks=0)",
        "with_fore(ink, hue)",
        "with_back(ink, hue)",
        "with_mark(ink, mark)",
        "without_mark(ink, mark)",
        "turned_marks(ink)",
        "ink_text(ink)",
        "ink_by_text(text)",
    ),
    "cells": (
        "is_cell(thing)",
        "is_picture(thing)",
        "need_picture(picture)",
        "size_of(picture)",
        "blank_row(wide, ink=0)",
        "blank_picture(wide, high, ink=0)",
        "copied(picture)",
        "unlike_cells(one, other)",
    ),
    "reader": ("parted(body)",),
    "state": ("edges(state)",),
    "going": (
        "go(state, letter, many)",
        "to_left_edge(state)",
        "to_place(state, row, column)",
        "to_home(state)",
        "on_tab(state, many)",
        "back_tab(state, many)",
        "set_stop(state)",
        "take_stop(state)",
        "take_stops(state)",
    ),
    "setting": (
        "set_rows(state, first, last)",
        "set_columns(state, first, last)",
        "dye(state, numbers)",
        "turn_modes(state, numbers, on)",
    ),
    "writing": ("line_end(state)", "put_sign(state, sign)", "again(state, many)"),
    "rolling": (
        "roll_up(state, first, times)",
        "roll_down(state, first, times)",
        "put_lines(state, many)",
        "cut_lines(state, many)",
        "roll(state, letter, many)",
    ),
    "wiping": (
        "put_cells(state, many)",
        "cut_cells(state, many)",
        "wipe_cells(state, many)",
        "wipe(state, way)",
    ),
    "keeping": ("keep(state)", "take_back(state)", "begin_anew(state)", "asked(state, numbers)"),
    "deeds": ("deed_of(read)",),
    "papers": ("paper_of(picture)", "picture_of(paper)"),
    "lines": ("stretches(row)", "writings(row, one, other)", "worth_of_line(one, other)"),
    "ways": ("way_done(picture, way)", "least_worth(one, other)", "least_way(one, other)"),
    "teller": (
        "ink_signs(ink)",
        "signs_of(way, row=0, column=0, ink=0)",
        "leads(one, other, row=0, column=0, ink=0)",
    ),
}
# What a class is made with, its base, and its functions.
CLASSES = {
    ("reader", "Reader"): ("()", "object", ("read(text)", "open_row()")),
    ("state", "State"): ("(wide, high)", "object", ()),
    ("deeds", "Deed"): ("()", "object", ("do(state)", "signs()")),
    ("deeds", "Sign"): ("(sign)", "Deed", ("do(state)", "signs()")),
    ("deeds", "Line"): ("()", "Deed", ("do(state)", "signs()")),
    ("deeds", "Tab"): ("()", "Deed", ("do(state)", "signs()")),
    ("deeds", "Row"): ("(letter, numbers)", "Deed", ("do(state)", "signs()")),
    ("screen", "Screen"): (
        "(wide, high)",
        "object",
        (
            "feed(text)",
            "told_picture()",
            "cursor()",
            "is_late()",
            "told_ink()",
            "modes()",
            "window()",
            "told_stops()",
            "many_kept()",
            "open_row()",
            "lines()",
        ),
    ),
}
REFUSALS = ("BadPicture", "BadSize", "BadInk", "BadPaper", "Unlike")


def file_named(name):
    return importlib.import_module("signscreen." + name)


class InterfaceTest(unittest.TestCase):
    def test_functions(self):
        for name, functions in FUNCTIONS.items():
            for function in functions:
                called = function.split("(")[0]
                found = getattr(file_named(name), called)
                self.assertEqual(called + str(inspect.signature(found)), function, name)
                self.assertEqual(found.__module__, "signscreen." + name)

    def test_classes(self):
        for (name, called), (made_with, base, functions) in CLASSES.items():
            found = getattr(file_named(name), called)
            given = inspect.signature(found) if found.__init__ is not object.__init__ else "()"
            self.assertEqual(str(given), made_with, called)
            self.assertEqual([one.__name__ for one in found.__bases__], [base], called)
            for function in functions:
                method = getattr(found, function.split("(")[0])
                self_too = function.replace("(", "(self, ").replace(", )", ")")
                self.assertEqual(method.__name__ + str(inspect.signature(method)), self_too, called)

    def test_refusals(self):
        errors = file_named("errors")
        self.assertEqual(errors.ScreenError.__bases__, (ValueError,))
        for name in REFUSALS:
            self.assertEqual(getattr(errors, name).__bases__, (errors.ScreenError,))

    def test_fields(self):
        state = State(3, 2)
        self.assertEqual(set(vars(state)), set(FIELDS))
        self.assertEqual(set(vars(Sign("a"))), {"sign"})
        self.assertEqual(set(vars(Row("u", (None,)))), {"letter", "numbers"})


class HandedInTest(unittest.TestCase):
    """Nothing that is handed in is changed, and what is told stays when it is changed later."""

    def pairs(self):
        one = full_picture(4, 3)
        other = one[1:] + [[(" ", 0), ("~", 67), ("x", 67), (" ", 0)]]
        return one, copied(other)

    def calls(self):
        """Each function that is handed something that can be changed, with what it is handed."""
        one, other = self.pairs()
        way = [("cut", 0, 1), ("put", 1, 1), ("write", 2, 1, "~x", 67)]
        return (
            (need_picture, [one]),
            (copied, [one]),
            (unlike_cells, [one, other]),
            (paper_of, [one]),
            (stretches, [one[0]]),
            (lambda one, other: writings(0, one, other), [one[2], other[2]]),
            (worth_of_line, [one[0], other[2]]),
            (way_done, [one, way]),
            (way_done, [one, []]),
            (least_worth, [one, other]),
            (least_way, [one, other]),
            (least_way, [one, one]),
            (signs_of, [way]),
            (leads, [one, other]),
        )

    def test_it_is_not_changed(self):
        for function, given in self.calls():
            kept = copy.deepcopy(given)
            function(*given)
            self.assertEqual(given, kept, function)

    def test_it_may_be_changed_later(self):
        for function, shared in self.calls():
            given = copy.deepcopy(shared)
            told = function(*given)
            kept = copy.deepcopy(told)
            for thing in given:
                for part in thing:
                    if isinstance(part, list):
                        part[0] = ("!", 5)
                        part.append(("?", 6))
                thing.clear()
            self.assertEqual(told, kept, function)

    def test_it_may_be_looked_at_alone(self):
        """Rows and pictures of which no part may be changed do as well."""
        one, other = self.pairs()
        self.assertEqual(stretches(tuple(one[0])), stretches(one[0]))
        self.assertEqual(writings(1, tuple(one[2]), tuple(other[2])), writings(1, one[2], other[2]))

    def test_numbers_of_a_row(self):
        state = State(3, 2)
        numbers = (1, None, 3)
        asked(state, numbers)
        dye(state, numbers)
        turn_modes(state, numbers, True)
        Row("q", numbers).do(state)
        self.assertEqual(numbers, (1, None, 3))

    def test_a_thing_that_a_reader_told(self):
        read = ("row", "g", (2, 3))
        deed_of(read).do(State(3, 3))
        self.assertEqual(read, ("row", "g", (2, 3)))


class ToldTest(unittest.TestCase):
    """Each list that is told is a new one, and the asker's own."""

    def tellers(self):
        picture = full_picture(4, 3)
        other = copied(picture[1:]) + blank_picture(4, 1)
        screen = Screen(4, 3)
        screen.feed("ab~v\n~1cc")
        state = State(4, 3)
        return (
            lambda: blank_row(3),
            lambda: blank_picture(4, 3),
            lambda: copied(picture),
            lambda: unlike_cells(picture, other),
            lambda: Reader().read("a~3u"),
            lambda: Reader().read(""),
            lambda: asked(state, (1, 2)),
            lambda: asked(state, (9,)),
            lambda: Row("q", (1, 2)).do(state),
            lambda: Row("b", (1, 2)).do(state),
            lambda: screen.feed("~2q"),
            lambda: screen.feed(""),
            screen.told_picture,
            screen.told_stops,
            screen.lines,
            lambda: picture_of(paper_of(picture)),
            lambda: stretches(picture[0]),
            lambda: writings(0, picture[0], other[0]),
            lambda: way_done(picture, [("cut", 0, 1)]),
            lambda: way_done(picture, []),
            lambda: least_way(picture, other),
            lambda: least_way(picture, picture),
        )

    def test_changing_it_changes_nothing(self):
        for number, teller in enumerate(self.tellers()):
            told = teller()
            kept = copy.deepcopy(told)
            self.assertIs(type(told), list, number)
            for part in told:
                if isinstance(part, list):
                    part[0] = ("!", 5)
                    part.append(("?", 6))
            told.append("x")
            again = teller()
            self.assertEqual(again, kept, number)
            self.assertIsNot(again, told, number)

    def test_nothing_done_later_changes_it(self):
        screen = Screen(4, 3)
        screen.feed("ab~v\n~1cc")
        told = told_by(screen)
        kept = copy.deepcopy(told)
        screen.feed("~5w~Zxyz\n\n\n~U~v~v")
        screen.feed(leads(screen.told_picture(), full_picture(4, 3)))
        self.assertEqual(told, kept)


class RefusalTest(unittest.TestCase):
    def check_refused(self, error, function, *given):
        kept = copy.deepcopy(given)
        with self.assertRaises(ScreenError) as caught:
            function(*given)
        self.assertIs(type(caught.exception), error)
        self.assertEqual(given, kept)

    def test_each(self):
        small, great = full_picture(2, 2), full_picture(3, 2)
        self.check_refused(BadPicture, need_picture, [])
        self.check_refused(BadPicture, paper_of, [[]])
        self.check_refused(BadPicture, leads, None, great)
        self.check_refused(BadPicture, leads, great, None)
        self.check_refused(BadSize, blank_picture, 0, 1)
        self.check_refused(BadSize, State, 1, 13)
        self.check_refused(BadSize, Screen, True, 1)
        self.check_refused(BadInk, ink_by_text, "bold ")
        self.check_refused(BadPaper, picture_of, "a\n1:plain")
        self.check_refused(Unlike, unlike_cells, small, great)
        self.check_refused(Unlike, least_way, small, great)
        self.check_refused(Unlike, least_worth, great, small)
        self.check_refused(Unlike, leads, small, great)

    def test_of_several_the_first_one_told(self):
        small, great = full_picture(2, 2), full_picture(3, 2)
        self.check_refused(BadPicture, leads, small, great[:1] + [[]])
        self.check_refused(BadPicture, leads, great[:1] + [[]], small)

    def test_a_screen_goes_on_behind_a_refusal(self):
        screen = Screen(3, 2)
        screen.feed("ab~1;")
        ahead = told_by(screen)
        self.check_refused(Unlike, leads, screen.told_picture(), full_picture(2, 2))
        self.check_refused(BadSize, Screen, 25, 2)
        self.assertEqual(told_by(screen), ahead)


if __name__ == "__main__":
    unittest.main()
