"""cells.py: promise [3], and promise [1] as far as it speaks of pictures."""

import copy
import unittest

from signscreen.cells import (
    blank_picture,
    blank_row,
    copied,
    is_cell,
    is_picture,
    need_picture,
    size_of,
    unlike_cells,
)
from signscreen.errors import BadPicture, BadSize, Unlike

A = ("a", 0)
B = ("b", 65)
OTHER_KINDS = (None, True, False, 0, 1, -1, 1.5, "", "a", "ab", b"a", (), {}, {0: [A]}, {1}, object(), list, is_cell)


def lettered(wide, high):
    return [[("abcdefgh"[(row + column) % 8], 40 * row + column) for column in range(wide)] for row in range(high)]


def looped():
    loop = []
    loop.append(loop)
    return loop


NO_PICTURES = OTHER_KINDS + (
    [],
    [[]],
    [[], []],
    [A],
    [None],
    [[None]],
    ["a"],
    [["a"]],
    [[["a", 0]]],
    [(A,)],
    ((A,),),
    ([A],),
    [[A], (A,)],
    [(A,), [A]],
    [[A], [A, A]],
    [[A, A], [A]],
    [[A], []],
    [[], [A]],
    [[A], None],
    [[A, ("a", 512)]],
    [[A], [("%", 0)]],
    [[A]] * 13,
    [[A] * 25],
    [[A] * 24] * 11 + [[A] * 25],
    [{0: A}],
    [[A], {0: A}],
    {0: [A]},
    looped(),
)


class IsCellTest(unittest.TestCase):
    def test_each_sign_from_the_blank_to_the_tilde_but_one(self):
        for number in range(0, 300):
            expected = 32 <= number <= 126 and number != 37
            self.assertIs(is_cell((chr(number), 0)), expected, number)

    def test_the_edges_by_name(self):
        for sign in (" ", "~", "!", "}", "$", "&"):
            self.assertIs(is_cell((sign, 0)), True, sign)
        for sign in ("%", "\t", "\n", "\r", "\x1f", "\x7f", "", "ab", "  ", "\u00e4", "\u2028", "\U0001f600", "\ud800"):
            self.assertIs(is_cell((sign, 0)), False, repr(sign))

    def test_each_ink_and_no_other_number(self):
        for ink in range(512):
            self.assertIs(is_cell(("a", ink)), True, ink)
        for ink in (-1, 512, True, False, None, "0", 0.0, (0,), [0], {}, "plain"):
            self.assertIs(is_cell(("a", ink)), False, ink)

    def test_no_sign_of_another_kind(self):
        for sign in (None, True, 0, 97, b"a", ["a"], ("a",), {"a": 1}, object()):
            self.assertIs(is_cell((sign, 0)), False, sign)

    def test_a_cell_is_a_tuple_of_two(self):
        for thing in ((), ("a",), ("a", 0, 0), (0, "a"), ["a", 0], "a0", {"a": 0}, {0: "a", 1: 0}, [A], (A, A)):
            self.assertIs(is_cell(thing), False, thing)

    def test_things_of_other_kinds_are_no_cells(self):
        for thing in OTHER_KINDS + ([], [[A]]):
            self.assertIs(is_cell(thing), False, thing)


class IsPictureTest(unittest.TestCase):
    def test_each_size(self):
        for wide in range(0, 27):
            for high in range(0, 15):
                picture = [[A] * wide for row in range(high)]
                expected = 1 <= wide <= 24 and 1 <= high <= 12
                self.assertIs(is_picture(picture), expected, (wide, high))

    def test_ordinary_pictures(self):
        self.assertIs(is_picture([[("a", 64), ("b", 64), (" ", 0)]]), True)
        self.assertIs(is_picture(lettered(7, 5)), True)
        self.assertIs(is_picture(lettered(24, 12)), True)
        self.assertIs(is_picture([[(" ", 0)], [("~", 511)]]), True)

    def test_one_wrong_cell_anywhere(self):
        for row in range(3):
            for column in range(4):
                for wrong in (("%", 0), ("a", 512), ("a", True), ["a", 0], "a", None, ("a", 0, 0)):
                    picture = lettered(4, 3)
                    picture[row][column] = wrong
                    self.assertIs(is_picture(picture), False, (row, column, wrong))

    def test_one_row_longer_or_shorter(self):
        for row in range(3):
            picture = lettered(4, 3)
            picture[row].append(A)
            self.assertIs(is_picture(picture), False, row)
            picture = lettered(4, 3)
            picture[row].pop()
            self.assertIs(is_picture(picture), False, row)

    def test_things_that_are_no_pictures(self):
        for thing in NO_PICTURES:
            self.assertIs(is_picture(thing), False)


class NeedPictureTest(unittest.TestCase):
    def test_none_of_a_picture(self):
        for picture in ([[A]], lettered(7, 5), lettered(24, 12), blank_picture(24, 1), blank_picture(1, 12)):
            self.assertIsNone(need_picture(picture))

    def test_bad_picture_of_anything_else(self):
        for thing in NO_PICTURES:
            with self.assertRaises(BadPicture):
                need_picture(thing)

    def test_what_is_refused_is_not_changed(self):
        refused = [[A, B], [A]]
        with self.assertRaises(BadPicture):
            need_picture(refused)
        self.assertEqual(refused, [[A, B], [A]])


class SizeTest(unittest.TestCase):
    def test_wide_then_high(self):
        for wide, high in ((1, 1), (3, 2), (2, 3), (24, 12), (24, 1), (1, 12)):
            told = size_of(lettered(wide, high))
            self.assertEqual(told, (wide, high))
            self.assertIs(type(told), tuple)


class BlankRowTest(unittest.TestCase):
    def test_plain_where_the_ink_is_left_out(self):
        for wide in range(1, 25):
            self.assertEqual(blank_row(wide), [(" ", 0)] * wide)

    def test_of_an_ink_by_place_and_by_name(self):
        for ink in (0, 1, 64, 511):
            self.assertEqual(blank_row(3, ink), [(" ", ink), (" ", ink), (" ", ink)])
            self.assertEqual(blank_row(wide=3, ink=ink), [(" ", ink)] * 3)

    def test_no_width_is_refused(self):
        self.assertEqual(blank_row(0), [])
        self.assertEqual(blank_row(25, 7), [(" ", 7)] * 25)

    def test_each_row_is_a_new_one(self):
        told = blank_row(2)
        self.assertIs(type(told), list)
        told[0] = A
        told.append(A)
        self.assertEqual(blank_row(2), [(" ", 0), (" ", 0)])


class BlankPictureTest(unittest.TestCase):
    def test_each_size(self):
        for wide in range(1, 25):
            for high in range(1, 13):
                self.assertEqual(blank_picture(wide, high), [[(" ", 0)] * wide] * high)

    def test_of_an_ink_by_place_and_by_name(self):
        self.assertEqual(blank_picture(2, 1, 511), [[(" ", 511), (" ", 511)]])
        self.assertEqual(blank_picture(wide=1, high=2, ink=64), [[(" ", 64)], [(" ", 64)]])

    def test_it_is_a_picture(self):
        self.assertIs(is_picture(blank_picture(24, 12, 300)), True)
        self.assertEqual(size_of(blank_picture(5, 3)), (5, 3))

    def test_bad_size_beyond_the_edges(self):
        for wide, high in ((0, 1), (25, 1), (-1, 1), (1, 0), (1, 13), (1, -1), (0, 0), (25, 13), (13, 24), (10**30, 1)):
            with self.assertRaises(BadSize, msg=(wide, high)):
                blank_picture(wide, high)

    def test_bad_size_of_anything(self):
        things = (None, True, False, "", "1", "a", 1.0, 2.5, float("nan"), 1j, b"1", [], [1], (1,), {}, {1}, object())
        for thing in things:
            for wide, high in ((thing, 1), (1, thing), (thing, thing), (thing, 99), (99, thing)):
                with self.assertRaises(BadSize, msg=(wide, high)):
                    blank_picture(wide, high)

    def test_each_picture_and_each_of_its_rows_is_a_new_one(self):
        told = blank_picture(2, 3)
        told[0][0] = A
        self.assertEqual(told, [[A, (" ", 0)], [(" ", 0), (" ", 0)], [(" ", 0), (" ", 0)]])
        told.append([A])
        self.assertEqual(blank_picture(2, 3), [[(" ", 0), (" ", 0)]] * 3)


class CopiedTest(unittest.TestCase):
    def test_alike(self):
        for picture in ([[A]], lettered(7, 5), lettered(24, 12)):
            self.assertEqual(copied(picture), picture)
            self.assertIs(is_picture(copied(picture)), True)

    def test_a_change_of_the_copy_does_not_reach_the_picture(self):
        picture = lettered(3, 2)
        told = copied(picture)
        told[1][2] = ("!", 9)
        told[0].append(A)
        told.append([A])
        self.assertEqual(picture, lettered(3, 2))
        self.assertEqual(copied(picture), lettered(3, 2))

    def test_a_change_of_the_picture_does_not_reach_the_copy(self):
        picture = lettered(3, 2)
        told = copied(picture)
        picture[1][2] = ("!", 9)
        picture[0].append(A)
        picture.append([A])
        self.assertEqual(told, lettered(3, 2))

    def test_rows_that_are_one_list_become_two(self):
        row = [A]
        told = copied([row, row])
        told[0][0] = B
        self.assertEqual(told, [[B], [A]])


class UnlikeCellsTest(unittest.TestCase):
    def test_none_of_a_picture_and_itself(self):
        picture = lettered(24, 12)
        self.assertEqual(unlike_cells(picture, picture), [])
        self.assertEqual(unlike_cells(picture, lettered(24, 12)), [])

    def test_by_sign_by_ink_and_by_both(self):
        one = [[("a", 0), ("a", 0), ("a", 0), ("a", 0)]]
        other = [[("b", 0), ("a", 1), ("b", 1), ("a", 0)]]
        self.assertEqual(unlike_cells(one, other), [(0, 0), (0, 1), (0, 2)])

    def test_row_by_row_as_tuples_of_row_and_column(self):
        one = lettered(4, 3)
        other = lettered(4, 3)
        for row, column in ((2, 0), (0, 3), (1, 1), (0, 1), (2, 3)):
            other[row][column] = ("!", 511)
        told = unlike_cells(one, other)
        self.assertEqual(told, [(0, 1), (0, 3), (1, 1), (2, 0), (2, 3)])
        self.assertEqual(unlike_cells(other, one), told)
        self.assertEqual({type(place) for place in told}, {tuple})

    def test_every_place_of_the_greatest_pictures(self):
        expected = [(row, column) for row in range(12) for column in range(24)]
        self.assertEqual(unlike_cells(blank_picture(24, 12), blank_picture(24, 12, 1)), expected)

    def test_unlike_where_the_sizes_differ(self):
        for one, other in (((2, 2), (3, 2)), ((2, 2), (2, 3)), ((2, 3), (3, 2)), ((1, 1), (24, 12)), ((1, 4), (4, 1))):
            with self.assertRaises(Unlike):
                unlike_cells(blank_picture(*one), blank_picture(*other))
            with self.assertRaises(Unlike):
                unlike_cells(blank_picture(*other), blank_picture(*one))

    def test_each_list_is_a_new_one(self):
        one, other = [[A]], [[B]]
        told = unlike_cells(one, other)
        told.append("more")
        self.assertEqual(unlike_cells(one, other), [(0, 0)])
        unlike_cells(one, one).append("more")
        self.assertEqual(unlike_cells(one, one), [])


class NothingIsChangedTest(unittest.TestCase):
    def test_pictures_that_are_handed_in_stay_as_they_are(self):
        one, other = lettered(4, 3), blank_picture(4, 3, 5)
        wider = lettered(5, 3)
        before = copy.deepcopy((one, other, wider))
        is_picture(one)
        need_picture(one)
        size_of(one)
        copied(one)
        unlike_cells(one, other)
        with self.assertRaises(Unlike):
            unlike_cells(one, wider)
        with self.assertRaises(Unlike):
            unlike_cells(wider, one)
        self.assertEqual((one, other, wider), before)

    def test_what_is_no_picture_stays_as_it_is(self):
        thing = [[A, ["a", 0]], [A], "a"]
        before = copy.deepcopy(thing)
        is_picture(thing)
        is_cell(thing)
        with self.assertRaises(BadPicture):
            need_picture(thing)
        with self.assertRaises(BadSize):
            blank_picture(thing, thing)
        self.assertEqual(thing, before)


if __name__ == "__main__":
    unittest.main()
