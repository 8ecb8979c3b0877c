"""lines.py: promise [26], and what [1] and [24] say of it."""

import copy
import random
import unittest

from signscreen.lines import stretches, worth_of_line, writings
from tests.every_way import fewest_writings
from tests.states import SIGNS


def cells(signs, *inks):
    """Cells of these signs; each ink stands for as many cells as its first number says."""
    told = [ink for many, ink in inks for turn in range(many)]
    return list(zip(signs, told, strict=True))


def plain(signs):
    return [(sign, 0) for sign in signs]


class StretchesTest(unittest.TestCase):
    def check_stretches(self, row, expected):
        kept = copy.deepcopy(row)
        told = stretches(row)
        self.assertEqual(told, expected, row)
        self.assertIs(type(told), list)
        for stretch in told:
            self.assertIs(type(stretch), tuple)
            self.assertEqual([type(part) for part in stretch], [int, int, int])
        self.assertEqual(row, kept)

    def test_one_cell(self):
        for ink in (0, 1, 64, 511):
            self.check_stretches([("a", ink)], [(0, 1, ink)])

    def test_one_ink(self):
        for wide in range(1, 25):
            self.check_stretches(plain("a" * wide), [(0, wide, 0)])
            self.check_stretches([(SIGNS[column], 77) for column in range(wide)], [(0, wide, 77)])

    def test_each_cell_its_ink(self):
        for wide in range(1, 25):
            row = [("a", column) for column in range(wide)]
            self.check_stretches(row, [(column, column + 1, column) for column in range(wide)])

    def test_several(self):
        self.check_stretches(cells("ab ", (2, 64), (1, 0)), [(0, 2, 64), (2, 3, 0)])
        self.check_stretches(cells("abcdef", (1, 0), (4, 3), (1, 0)), [(0, 1, 0), (1, 5, 3), (5, 6, 0)])
        self.check_stretches(cells("aaaa", (1, 1), (1, 2), (2, 1)), [(0, 1, 1), (1, 2, 2), (2, 4, 1)])

    def test_signs_part_nothing(self):
        self.check_stretches(plain("a b~"), [(0, 4, 0)])

    def test_drawn_rows(self):
        for seed in range(300):
            chance = random.Random(seed)
            row = [(chance.choice("ab "), chance.choice((0, 0, 1, 64))) for column in range(chance.randint(1, 24))]
            told = stretches(row)
            inks = [ink for first, behind, ink in told for column in range(first, behind)]
            self.assertEqual(inks, [cell[1] for cell in row])
            self.assertEqual([told[0][0], told[-1][1]], [0, len(row)])
            for ahead, behind in zip(told, told[1:]):
                self.assertEqual(ahead[1], behind[0])
                self.assertNotEqual(ahead[2], behind[2])

    def test_the_list_is_the_askers_own(self):
        row = plain("ab")
        stretches(row).append((9, 9, 9))
        self.assertEqual(stretches(row), [(0, 2, 0)])


class WritingsTest(unittest.TestCase):
    def check_writings(self, row, one, other, expected):
        kept = copy.deepcopy((one, other))
        told = writings(row, one, other)
        self.assertEqual(told, expected, (one, other))
        self.assertIs(type(told), list)
        for writing in told:
            self.assertIs(type(writing), tuple)
            self.assertEqual([type(part) for part in writing], [str, int, int, str, int])
        self.assertEqual(worth_of_line(one, other), len(expected), (one, other))
        self.assertIs(type(worth_of_line(one, other)), int)
        self.assertEqual((one, other), kept)

    def test_rows_alike(self):
        for row in (plain("a"), plain(" " * 24), cells("abcdef", (1, 0), (4, 3), (1, 0))):
            self.check_writings(0, row, list(row), [])
            self.check_writings(11, row, row, [])

    def test_rows_wholly_unlike(self):
        self.check_writings(0, plain("a"), plain("b"), [("write", 0, 0, "b", 0)])
        self.check_writings(3, plain("abcd"), plain("efgh"), [("write", 3, 0, "efgh", 0)])
        self.check_writings(11, plain("a" * 24), [("b", 511)] * 24, [("write", 11, 0, "b" * 24, 511)])

    def test_from_the_first_that_differs_to_the_last(self):
        self.check_writings(2, plain("abcdef"), plain("abXdef"), [("write", 2, 2, "X", 0)])
        self.check_writings(2, plain("abcdef"), plain("aXcYef"), [("write", 2, 1, "XcY", 0)])
        self.check_writings(2, plain("abcdef"), plain("Xbcdef"), [("write", 2, 0, "X", 0)])
        self.check_writings(2, plain("abcdef"), plain("abcdeX"), [("write", 2, 5, "X", 0)])
        self.check_writings(2, plain("abcdef"), plain("XbcdeX"), [("write", 2, 0, "XbcdeX", 0)])

    def test_within_each_stretch(self):
        one = plain("abcdef")
        other = cells("aXcdYf", (3, 0), (3, 64))
        self.check_writings(1, one, other, [("write", 1, 1, "X", 0), ("write", 1, 3, "dYf", 64)])
        one = cells("abcdef", (2, 0), (2, 5), (2, 0))
        other = cells("abcXef", (2, 0), (2, 5), (2, 0))
        self.check_writings(1, one, other, [("write", 1, 3, "X", 5)])
        other = cells("Xbcdef", (2, 0), (2, 5), (2, 0))
        self.check_writings(1, one, other, [("write", 1, 0, "X", 0)])
        other = cells("XbcdeX", (2, 0), (2, 5), (2, 0))
        self.check_writings(1, one, other, [("write", 1, 0, "X", 0), ("write", 1, 5, "X", 0)])

    def test_the_stretches_are_those_of_the_other(self):
        one = cells("abcd", (1, 1), (1, 2), (1, 3), (1, 4))
        self.check_writings(0, one, plain("abcd"), [("write", 0, 0, "abcd", 0)])
        back = [("write", 0, 0, "a", 1), ("write", 0, 1, "b", 2), ("write", 0, 2, "c", 3), ("write", 0, 3, "d", 4)]
        self.check_writings(0, plain("abcd"), one, back)

    def test_an_ink_alone_differs(self):
        self.check_writings(0, plain("abc"), cells("abc", (1, 0), (1, 8), (1, 0)), [("write", 0, 1, "b", 8)])
        self.check_writings(0, plain("   "), [(" ", 1)] * 3, [("write", 0, 0, "   ", 1)])

    def test_signs_of_all_sorts(self):
        for sign in SIGNS:
            self.check_writings(5, plain("  "), plain(" " + sign), [("write", 5, 1, sign, 0)])
        self.check_writings(5, plain("~~"), plain(" ~"), [("write", 5, 0, " ", 0)])

    def test_drawn_rows(self):
        for seed in range(600):
            chance = random.Random(seed)
            wide = chance.choice((1, 2, 3, 5, 8, 24))
            inks = chance.choice(((0,), (0, 64), (0, 0, 0, 1, 2, 3)))
            one = [(chance.choice("ab "), chance.choice(inks)) for column in range(wide)]
            other = [cell if chance.random() < 0.6 else (chance.choice("ab "), chance.choice(inks)) for cell in one]
            told = writings(4, one, other)
            self.assertEqual(len(told), fewest_writings(one, other), (one, other))
            self.assertEqual(len(told), worth_of_line(one, other), (one, other))
            self.assertEqual([writing[2] for writing in told], sorted({writing[2] for writing in told}))
            made = list(one)
            for kind, row, column, text, ink in told:
                self.assertEqual((kind, row), ("write", 4))
                self.assertNotEqual(made[column], other[column])
                self.assertNotEqual(made[column + len(text) - 1], other[column + len(text) - 1])
                made[column : column + len(text)] = [(sign, ink) for sign in text]
            self.assertEqual(made, other)

    def test_the_list_is_the_askers_own(self):
        one = plain("ab")
        other = plain("ac")
        writings(0, one, other).append("x")
        writings(0, one, one).append("x")
        self.assertEqual(writings(0, one, other), [("write", 0, 1, "c", 0)])
        self.assertEqual(writings(0, one, one), [])


if __name__ == "__main__":
    unittest.main()
