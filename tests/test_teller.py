"""teller.py: promise [28], and what [1] says of it."""

import copy
import random
import unittest

from signscreen.cells import blank_picture, copied
from signscreen.errors import BadPicture, ScreenError, Unlike
from signscreen.screen import Screen
from signscreen.teller import ink_signs, leads, signs_of
from signscreen.ways import least_way, way_done
from tests.drawn import drawn_picture, drawn_text
from tests.model import Model, told_by
from tests.states import SIGNS, full_picture
from tests.test_cells import NO_PICTURES
from tests.test_ways import moved_picture, rows_of

BEGIN = "~m~M~1o~2;3f~c"
END = "~1;1g~0;10;20c"


def own_ink_signs(ink):
    numbers = ["0"] + [str(mark + 1) for mark in range(3) if ink // (64, 128, 256)[mark] % 2]
    return "~" + ";".join(numbers + [str(ink % 8 + 10), str(ink // 8 % 8 + 20)]) + "c"


class InkSignsTest(unittest.TestCase):
    def test_the_documents_row(self):
        self.assertEqual(ink_signs(67), "~0;1;13;20c")

    def test_some(self):
        self.assertEqual(ink_signs(0), "~0;10;20c")
        self.assertEqual(ink_signs(511), "~0;1;2;3;17;27c")
        self.assertEqual(ink_signs(8), "~0;10;21c")
        self.assertEqual(ink_signs(128), "~0;2;10;20c")
        self.assertEqual(ink_signs(256 + 64 + 5), "~0;1;3;15;20c")

    def test_each_ink(self):
        for ink in range(512):
            told = ink_signs(ink)
            self.assertEqual(told, own_ink_signs(ink))
            self.assertIs(type(told), str)
            screen = Screen(3, 2)
            screen.feed("~1;2;3;17;27c" + told)
            self.assertEqual((screen.told_ink(), screen.open_row()), (ink, ""))


class SignsOfTest(unittest.TestCase):
    def check_signs(self, way, expected, *given, **named):
        kept = copy.deepcopy(way)
        told = signs_of(way, *given, **named)
        self.assertEqual(told, expected)
        self.assertIs(type(told), str)
        self.assertEqual(way, kept)

    def test_no_deeds(self):
        self.check_signs([], BEGIN + END)

    def test_cuts_and_puts(self):
        self.check_signs([("cut", 0, 1)], BEGIN + "~1g~1k" + END)
        self.check_signs([("cut", 3, 12)], BEGIN + "~4g~12k" + END)
        self.check_signs([("put", 0, 1)], BEGIN + "~1g~1i" + END)
        self.check_signs([("put", 11, 1)], BEGIN + "~12g~1i" + END)
        self.check_signs([("cut", 0, 2), ("put", 4, 3)], BEGIN + "~1g~2k~5g~3i" + END)

    def test_writings(self):
        self.check_signs([("write", 0, 0, "a", 0)], BEGIN + "~1;1g~0;10;20ca" + END)
        self.check_signs([("write", 11, 23, "b", 67)], BEGIN + "~12;24g~0;1;13;20cb" + END)
        self.check_signs([("write", 1, 2, "a b", 8)], BEGIN + "~2;3g~0;10;21ca b" + END)

    def test_each_tilde_twice(self):
        self.check_signs([("write", 0, 0, "~", 0)], BEGIN + "~1;1g~0;10;20c~~" + END)
        self.check_signs([("write", 0, 0, "a~~3u~", 0)], BEGIN + "~1;1g~0;10;20ca~~~~3u~~" + END)

    def test_all_together(self):
        way = [("cut", 1, 1), ("put", 2, 1), ("write", 0, 1, "x", 64), ("write", 2, 0, "~y", 0)]
        middle = "~2g~1k~3g~1i~1;2g~0;1;10;20cx~3;1g~0;10;20c~~y"
        self.check_signs(way, BEGIN + middle + END)

    def test_place_and_ink_told(self):
        self.check_signs([], BEGIN + "~3;1g~0;10;20c", 2)
        self.check_signs([], BEGIN + "~3;5g~0;10;20c", 2, 4)
        self.check_signs([], BEGIN + "~3;5g~0;1;13;20c", 2, 4, 67)
        self.check_signs([], BEGIN + "~1;24g~0;10;20c", column=23)
        self.check_signs([], BEGIN + "~1;1g~0;3;10;27c", ink=312)
        self.check_signs([("cut", 0, 1)], BEGIN + "~1g~1k~12;2g~0;10;20c", row=11, column=1)


class LeadsTest(unittest.TestCase):
    def check_leads(self, one, other, *given, **named):
        kept = copy.deepcopy((one, other))
        told = leads(one, other, *given, **named)
        self.assertEqual(told, signs_of(least_way(one, other), *given, **named))
        self.assertIs(type(told), str)
        self.assertEqual((one, other), kept)
        self.assertEqual(leads(one, other, *given, **named), told)
        return told

    def test_told_signs(self):
        one = rows_of("abc")
        self.assertEqual(self.check_leads(one, one), BEGIN + END)
        self.assertEqual(self.check_leads(one, rows_of("bc.")), BEGIN + "~1g~1k" + END)
        self.assertEqual(self.check_leads(one, rows_of(".ab")), BEGIN + "~1g~1i" + END)
        self.assertEqual(self.check_leads(one, rows_of("axc")), BEGIN + "~2;1g~0;10;20cxxx" + END)
        self.assertEqual(self.check_leads(one, one, 2, 1, 67), BEGIN + "~3;2g~0;1;13;20c")
        self.assertEqual(self.check_leads(one, one, ink=1, column=2), BEGIN + "~1;3g~0;11;20c")

    def test_what_is_no_picture(self):
        good = full_picture(3, 2)
        for thing in NO_PICTURES:
            self.assertRaises(BadPicture, leads, thing, good)
            self.assertRaises(BadPicture, leads, good, thing)
            self.assertRaises(BadPicture, leads, thing, thing)
        self.assertRaises(ScreenError, leads, None, good)
        self.assertEqual(good, full_picture(3, 2))

    def test_no_picture_comes_ahead_of_unlike(self):
        wide = full_picture(4, 2)
        self.assertRaises(BadPicture, leads, wide, [[("a", 0)], [("a", 512)]])
        self.assertRaises(BadPicture, leads, [[("a", 0)], [("a", 512)]], wide)

    def test_sizes_that_differ(self):
        for size in ((1, 1), (3, 1), (2, 2), (24, 12)):
            self.assertRaises(Unlike, leads, full_picture(3, 2), full_picture(*size))
            self.assertRaises(Unlike, leads, full_picture(*size), full_picture(3, 2))


class FedTest(unittest.TestCase):
    def check_fed(self, screen, signs, other, row, column, ink):
        """The signs lead a screen to the other picture, and to what is told beside it."""
        ahead = told_by(screen)
        wide, high = len(other[0]), len(other)
        self.assertEqual(screen.feed(signs), [], signs)
        expected = {
            "told_picture": other,
            "cursor": (row, column),
            "is_late": False,
            "told_ink": ink,
            "modes": (True, False, False),
            "window": (0, high - 1, 0, wide - 1),
            "told_stops": ahead["told_stops"],
            "many_kept": ahead["many_kept"],
            "open_row": "",
            "lines": ["".join(cell[0] for cell in line) for line in other],
        }
        self.assertEqual(told_by(screen), expected, signs)

    def some_screen(self, chance, wide, high, kind=Screen):
        """A screen in any state without an open row."""
        screen = kind(wide, high)
        # A letter that is no deed's ends an open row.
        text = drawn_text(chance, chance.randint(0, 60)) + "b"
        screen.feed(text + chance.choice(("", "~z", "~3;2g", "~2;2m", "~3o~2d", "~1;2o~99r!", "~v~7c")))
        return screen

    def test_a_screen_of_any_state(self):
        sizes = ((1, 1), (1, 4), (5, 1), (2, 2), (4, 3), (5, 5), (9, 4), (24, 12), (24, 3), (1, 12))
        for seed in range(250):
            chance = random.Random(seed)
            wide, high = chance.choice(sizes)
            screen = self.some_screen(chance, wide, high)
            one = screen.told_picture()
            inks = chance.choice(((0,), (0, 0, 64), range(512)))
            drawn = drawn_picture(chance, wide, high, chance.choice(("ab ", "~ ~", SIGNS)), inks)
            other = chance.choice((drawn, moved_picture(chance, one), moved_picture(chance, drawn)))
            row, column, ink = chance.randrange(high), chance.randrange(wide), chance.randrange(512)
            self.check_fed(screen, leads(one, other, row, column, ink), other, row, column, ink)
            self.check_fed(screen, leads(other, one), one, 0, 0, 0)

    def test_a_late_screen_with_all_set(self):
        screen = Screen(5, 4)
        screen.feed("abcde" * 4 + "~v~v~U~t~2;3m~2;4M~3;2o~1f~7;13;25c~z~1;3o~2;1gxyz")
        self.assertTrue(screen.is_late())
        self.assertEqual(screen.window(), (1, 2, 1, 3))
        one = screen.told_picture()
        for other in (full_picture(5, 4), one[1:] + blank_picture(5, 1), blank_picture(5, 4), one):
            twin = copy.deepcopy(screen)
            self.check_fed(twin, leads(one, other, 3, 4, 77), other, 3, 4, 77)

    def test_what_is_kept_comes_back(self):
        screen = Screen(5, 4)
        screen.feed("~2;3g~1c~v")
        one = screen.told_picture()
        self.check_fed(screen, leads(one, full_picture(5, 4)), full_picture(5, 4), 0, 0, 0)
        screen.feed("~z")
        self.assertEqual((screen.cursor(), screen.told_ink(), screen.many_kept()), ((1, 2), 64, 0))

    def test_any_way_not_the_least_alone(self):
        ways = (
            [("cut", 0, 4), ("put", 0, 4), ("write", 3, 4, "~", 511)],
            [("cut", 1, 1), ("cut", 1, 1), ("cut", 2, 2), ("put", 0, 1), ("put", 1, 3), ("put", 3, 1)],
            [("write", 3, 0, "abcde", 5), ("write", 0, 4, "x", 0), ("write", 0, 0, "~~~~", 64)],
            [("put", 3, 1), ("write", 3, 1, "  ", 8)],
        )
        for way in ways:
            screen = Screen(5, 4)
            screen.feed("~1;13cabcdefghijklmnopqrst")
            one = screen.told_picture()
            self.check_fed(screen, signs_of(way, 1, 2, 3), way_done(one, way), 1, 2, 3)

    def test_cut_in_pieces(self):
        screen = Screen(5, 4)
        other = [[("~", 67)] * 5 for row in range(4)]
        for sign in leads(screen.told_picture(), other, 2, 2, 2):
            self.assertEqual(screen.feed(sign), [])
        self.check_fed(screen, "", other, 2, 2, 2)

    def test_by_the_documents_words(self):
        """The plain going of the tests' own is led likewise."""
        for seed in range(40):
            chance = random.Random(seed)
            wide, high = chance.choice(((5, 4), (24, 12), (3, 6)))
            model = self.some_screen(chance, wide, high, Model)
            one = copied(model.told()["told_picture"])
            other = moved_picture(chance, one)
            model.feed(leads(one, other, 1, 2, 67))
            told = model.told()
            self.assertEqual((told["told_picture"], told["cursor"], told["told_ink"]), (other, (1, 2), 67))


if __name__ == "__main__":
    unittest.main()
