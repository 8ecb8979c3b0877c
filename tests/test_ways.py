"""ways.py: promises [24], [25] and [27], and what [1] says of them."""

import copy
import itertools
import random
import unittest

from signscreen.cells import is_picture
from signscreen.errors import Unlike
from signscreen.ways import least_way, least_worth, way_done
from tests.drawn import drawn_picture
from tests.every_way import fewest_by_pairs, fewest_deeds, is_there_a_way
from tests.states import cell_at, full_picture

BLANK = (" ", 0)


def rows_of(text, wide=3):
    """A picture by its rows' signs, one each: a row of that sign, of plain ink; a point is a plain blank row."""
    return [[BLANK if sign == "." else (sign, 0)] * wide for sign in text]


def moved_picture(chance, one):
    """A picture that some rows of the one stand in, here and there, with some cells changed."""
    other = []
    for row in one:
        odds = chance.random()
        if odds < 0.15:
            other.append([BLANK] * len(row))
        if odds < 0.3 and chance.random() < 0.5:
            continue
        other.append([cell if chance.random() < 0.9 else (chance.choice("ab "), 0) for cell in row])
    other = other + [[BLANK] * len(one[0]) for row in one]
    return other[: len(one)]


class WayCase(unittest.TestCase):
    def check_kind(self, way, high, wide):
        """It is a way as [24] tells it."""
        self.assertIs(type(way), list)
        kinds = [deed[0] for deed in way]
        self.assertEqual(kinds, sorted(kinds, key=["cut", "put", "write"].index), way)
        for deed in way:
            self.assertIs(type(deed), tuple, way)
            self.assertIn(deed[0], ("cut", "put", "write"))
            if deed[0] == "write":
                self.assertEqual([type(part) for part in deed], [str, int, int, str, int], way)
                self.assertTrue(0 <= deed[1] < high, way)
                self.assertTrue(0 <= deed[2] < deed[2] + len(deed[3]) <= wide, way)
            else:
                self.assertEqual([type(part) for part in deed], [str, int, int], way)
                self.assertTrue(0 <= deed[1] < deed[1] + deed[2] <= high, way)
        cuts = [deed[1] for deed in way if deed[0] == "cut"]
        puts = [deed[1] for deed in way if deed[0] == "put"]
        self.assertEqual(cuts, sorted(cuts), way)
        self.assertEqual(puts, sorted(set(puts)), way)
        written = [(deed[1], deed[2] + step) for deed in way if deed[0] == "write" for step in range(len(deed[3]))]
        self.assertEqual(len(written), len(set(written)), way)

    def check_least(self, one, other, worth):
        kept = copy.deepcopy((one, other))
        way = least_way(one, other)
        words = (one, other, way)
        self.check_kind(way, len(one), len(one[0]))
        self.assertEqual(way_done(one, way), other, words)
        self.assertEqual(len(way), worth, words)
        told = least_worth(one, other)
        self.assertEqual(told, worth, words)
        self.assertIs(type(told), int)
        self.assertEqual(least_way(one, other), way, words)
        self.assertEqual((one, other), kept)
        return way


class WayDoneTest(WayCase):
    def check_done(self, picture, way, expected):
        kept = copy.deepcopy((picture, way))
        told = way_done(picture, way)
        self.assertEqual(told, expected, way)
        self.assertTrue(is_picture(told))
        self.assertEqual(len({id(row) for row in told + picture}), 2 * len(picture))
        for row in told:
            row[0] = ("!", 9)
        self.assertEqual((picture, way), kept)
        self.assertEqual(way_done(picture, way), expected, way)

    def check_rows(self, text, way, expected):
        self.check_done(rows_of(text), way, rows_of(expected))

    def test_no_deeds(self):
        self.check_rows("abcd", [], "abcd")
        self.check_done(full_picture(24, 12), [], full_picture(24, 12))
        self.check_done([[("a", 5)]], [], [[("a", 5)]])

    def test_a_cut(self):
        self.check_rows("abcd", [("cut", 0, 1)], "bcd.")
        self.check_rows("abcd", [("cut", 1, 1)], "acd.")
        self.check_rows("abcd", [("cut", 1, 2)], "ad..")
        self.check_rows("abcd", [("cut", 3, 1)], "abc.")
        self.check_rows("abcd", [("cut", 0, 4)], "....")
        self.check_rows("a", [("cut", 0, 1)], ".")

    def test_each_cut_and_each_put(self):
        text = "abcdefghijkl"
        for row in range(12):
            for many in range(1, 13 - row):
                self.check_rows(text, [("cut", row, many)], text[:row] + text[row + many :] + "." * many)
                self.check_rows(text, [("put", row, many)], (text[:row] + "." * many + text[row:])[:12])

    def test_a_put(self):
        self.check_rows("abcd", [("put", 0, 1)], ".abc")
        self.check_rows("abcd", [("put", 1, 2)], "a..b")
        self.check_rows("abcd", [("put", 3, 1)], "abc.")
        self.check_rows("abcd", [("put", 0, 4)], "....")
        self.check_rows("a", [("put", 0, 1)], ".")

    def test_rows_count_as_they_stand_then(self):
        self.check_rows("abcdef", [("cut", 0, 1), ("cut", 0, 1)], "cdef..")
        self.check_rows("abcdef", [("cut", 1, 1), ("cut", 2, 1)], "acef..")
        self.check_rows("abcdef", [("put", 0, 1), ("put", 2, 1)], ".a.bcd")
        self.check_rows("abcdef", [("put", 0, 2), ("put", 1, 1)], "...abc")
        self.check_rows("abcdef", [("cut", 4, 2), ("cut", 5, 1)], "abcd..")

    def test_cuts_and_puts_together(self):
        self.check_rows("abcdef", [("cut", 1, 2), ("put", 3, 1)], "ade.f.")
        self.check_rows("abcdef", [("cut", 0, 2), ("put", 0, 2)], "..cdef")
        self.check_rows("abcdef", [("put", 0, 1), ("put", 3, 2)], ".ab..c")
        self.check_rows("abcdef", [("cut", 5, 1), ("put", 5, 1)], "abcde.")

    def test_writings(self):
        picture = rows_of("ab")
        self.check_done(picture, [("write", 0, 0, "x", 5)], [[("x", 5), ("a", 0), ("a", 0)], picture[1]])
        self.check_done(picture, [("write", 1, 1, "x~", 64)], [picture[0], [("b", 0), ("x", 64), ("~", 64)]])
        self.check_done(picture, [("write", 1, 2, " ", 0)], [picture[0], [("b", 0), ("b", 0), BLANK]])
        self.check_done(picture, [("write", 0, 0, "xyz", 511)], [[("x", 511), ("y", 511), ("z", 511)], picture[1]])
        self.check_done(picture, [("write", 0, 0, "x", 1), ("write", 0, 2, "y", 2)], [
            [("x", 1), ("a", 0), ("y", 2)],
            picture[1],
        ])  # fmt: skip

    def test_all_together(self):
        way = [("cut", 0, 1), ("put", 2, 1), ("write", 2, 1, "xy", 3), ("write", 0, 0, "z", 0)]
        expected = rows_of("bc.de")
        expected[2] = [BLANK, ("x", 3), ("y", 3)]
        expected[0] = [("z", 0), ("b", 0), ("b", 0)]
        self.check_done(rows_of("abcde"), way, expected)

    def test_blanks_are_plain(self):
        picture = [[("a", 77)] * 2 for row in range(3)]
        self.check_done(picture, [("cut", 0, 2), ("put", 0, 1)], [[BLANK] * 2, [("a", 77)] * 2, [BLANK] * 2])

    def test_the_told_picture_stays_when_the_handed_one_changes(self):
        picture = full_picture(3, 2)
        way = [("write", 0, 0, "x", 5)]
        told = way_done(picture, way)
        picture[1][1] = ("!", 9)
        way.append(("cut", 0, 2))
        self.assertEqual(told[1][1], cell_at(1, 1))
        self.assertEqual(told[0][0], ("x", 5))


class LeastTest(WayCase):
    def check_rows(self, one, other, worth):
        return self.check_least(rows_of(one), rows_of(other), worth)

    def test_a_picture_and_itself(self):
        for picture in (rows_of("a"), rows_of("."), full_picture(24, 12), rows_of("aabb"), full_picture(1, 12)):
            self.assertEqual(self.check_least(picture, copy.deepcopy(picture), 0), [])
            self.assertEqual(self.check_least(picture, picture, 0), [])

    def test_one_cut(self):
        self.assertEqual(self.check_rows("abcdef", "bcdef.", 1), [("cut", 0, 1)])
        self.assertEqual(self.check_rows("abcdef", "abf...", 1), [("cut", 2, 3)])
        self.check_rows("abcdef", "abcde.", 1)
        self.check_rows("abcdef", "......", 1)
        self.check_rows("a", ".", 1)

    def test_one_put(self):
        self.assertEqual(self.check_rows("abcdef", ".abcde", 1), [("put", 0, 1)])
        self.assertEqual(self.check_rows("abcdef", "ab...c", 1), [("put", 2, 3)])
        self.check_rows("abcdef", "a.....", 1)

    def test_several_moves(self):
        self.check_rows("abcdef", "a.cdef", 1)
        self.check_rows("abcdef", "acd.ef", 2)
        self.check_rows("abcdef", ".bcdef", 1)
        self.check_rows("abcdefgh", "ac.dfgh.", 3)
        self.check_rows("abcdefgh", "bdfh....", 4)
        self.check_rows("abcdefgh", ".a.b.c.d", 4)
        self.check_rows("abcdefgh", "b.c.....", 3)

    def test_writings_alone(self):
        self.assertEqual(self.check_rows("abc", "axc", 1), [("write", 1, 0, "xxx", 0)])
        self.check_rows("abc", "xyz", 3)
        self.check_rows("a", "b", 1)
        one = rows_of("abc")
        other = rows_of("abc")
        other[2] = [("c", 0), ("c", 64), ("d", 0)]
        self.assertEqual(self.check_least(one, other, 2), [("write", 2, 1, "c", 64), ("write", 2, 2, "d", 0)])

    def test_a_move_where_it_spares_writings(self):
        one = [[(sign, column) for column in range(4)] for sign in "abcd"]
        other = [[BLANK] * 4] + one[:3]
        self.assertEqual(self.check_least(one, other, 1), [("put", 0, 1)])
        other = [[("x", 5)] * 4] + one[:3]
        self.assertEqual(self.check_least(one, other, 2), [("put", 0, 1), ("write", 0, 0, "xxxx", 5)])

    def test_blank_rows_of_the_one_may_stay(self):
        self.check_rows("a..b", "a..b", 0)
        self.check_rows("a..b", "a.b.", 1)
        self.check_rows("..ab", "ab..", 1)
        self.check_rows("ab..", "..ab", 1)
        self.check_rows("....", "ab..", 2)

    def test_all_small_orders_of_rows(self):
        """Narrow pictures of rows a, b and blanks, all of up to three rows."""
        for high in (1, 2, 3):
            pictures = [rows_of("".join(text), 1) for text in itertools.product("ab.", repeat=high)]
            for one in pictures:
                for other in pictures:
                    self.check_least(one, other, fewest_deeds(one, other))

    def test_some_orders_of_four_rows(self):
        texts = ["".join(text) for text in itertools.product("ab.", repeat=4)]
        pairs = list(itertools.product(texts, texts))[::11]
        for one, other in pairs + [("aabb", "ab.."), ("bbaa", "ba.."), ("..aa", ".a.b"), ("..aa", ".a..")]:
            one, other = rows_of(one, 1), rows_of(other, 1)
            self.check_least(one, other, fewest_deeds(one, other))

    def test_blanks_at_the_bottom_come_by_themselves(self):
        self.check_rows("aabb", "ab..", 1)
        self.check_rows("..aa", ".a..", 1)
        self.check_rows("..aa", ".a.b", 2)

    def test_small_drawn_pictures(self):
        sizes = ((1, 4), (2, 3), (3, 3), (4, 2), (2, 4), (5, 1), (3, 4), (2, 5), (4, 5), (3, 6))
        for seed in range(400):
            chance = random.Random(seed)
            wide, high = chance.choice(sizes)
            inks = chance.choice(((0,), (0, 0, 64), (0, 1, 2)))
            one = drawn_picture(chance, wide, high, "ab ", inks)
            other = drawn_picture(chance, wide, high, "ab ", inks)
            for pair in ((one, other), (one, moved_picture(chance, one)), (moved_picture(chance, other), other)):
                self.check_least(*pair, fewest_deeds(*pair))

    def test_all_ways_one_by_one(self):
        """No way of fewer deeds leads there, each one done cell by cell."""
        for seed in range(60):
            chance = random.Random(seed)
            wide, high = chance.choice(((1, 1), (2, 2), (1, 3), (3, 1), (2, 3), (1, 4)))
            one = drawn_picture(chance, wide, high, "a ", (0, 0, 8))
            other = moved_picture(chance, one) if seed % 2 else drawn_picture(chance, wide, high, "a ", (0, 0, 8))
            worth = least_worth(one, other)
            if worth <= 3:
                self.assertTrue(is_there_a_way(one, other, worth), (one, other))
                self.assertFalse(worth > 0 and is_there_a_way(one, other, worth - 1), (one, other))

    def test_seven_rows(self):
        for seed in range(40):
            chance = random.Random(seed)
            one = drawn_picture(chance, 3, 7, "ab", (0, 64))
            other = moved_picture(chance, one)
            self.check_least(one, other, fewest_deeds(one, other))

    def test_greater_pictures(self):
        for seed in range(25):
            chance = random.Random(seed)
            wide, high = chance.choice(((24, 12), (24, 12), (1, 12), (12, 9), (24, 8)))
            one = drawn_picture(chance, wide, high, "abc ", (0, 0, 0, 64, 3))
            other = moved_picture(chance, moved_picture(chance, one))
            self.check_least(one, other, fewest_by_pairs(one, other))
        one = full_picture(24, 12)
        self.check_least(one, one[5:] + rows_of(".....", 24), 1)
        self.check_least(one, rows_of(".....", 24) + one[:7], 1)
        self.check_least(one, list(reversed(one)), fewest_by_pairs(one, list(reversed(one))))
        self.check_least(rows_of("." * 12, 24), one, 12 * 24)

    def test_the_two_ways_of_counting_agree(self):
        for seed in range(60):
            chance = random.Random(seed)
            one = drawn_picture(chance, 2, 5, "ab ", (0, 0, 1))
            other = moved_picture(chance, one)
            self.assertEqual(fewest_by_pairs(one, other), fewest_deeds(one, other))

    def test_the_same_way_each_time(self):
        chance = random.Random(7)
        one = drawn_picture(chance, 6, 6, "ab ", (0, 1))
        other = moved_picture(chance, one)
        first = least_way(one, other)
        for turn in range(5):
            least_way(other, one)
            self.assertEqual(least_way(copy.deepcopy(one), copy.deepcopy(other)), first)

    def test_the_way_is_the_askers_own(self):
        one = rows_of("abc")
        other = rows_of("bc.")
        told = least_way(one, other)
        told.append("x")
        nothing = least_way(one, one)
        nothing.append("x")
        self.assertEqual(least_way(one, other), [("cut", 0, 1)])
        self.assertEqual(least_way(one, one), [])

    def test_sizes_that_differ(self):
        sizes = ((1, 1), (2, 1), (1, 2), (3, 4), (4, 3), (24, 12), (12, 12), (24, 11))
        for size in sizes:
            for other_size in sizes:
                if size != other_size:
                    one = full_picture(*size)
                    other = full_picture(*other_size)
                    self.assertRaises(Unlike, least_worth, one, other)
                    self.assertRaises(Unlike, least_way, one, other)
                    self.assertEqual((one, other), (full_picture(*size), full_picture(*other_size)))


if __name__ == "__main__":
    unittest.main()
