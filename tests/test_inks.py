"""inks.py: promise [2], and the texts of inks."""

import unittest

from signscreen.errors import BadInk
from signscreen.inks import (
    back_of,
    fore_of,
    ink_by_text,
    ink_of,
    ink_text,
    is_ink,
    marks_of,
    turned_marks,
    with_back,
    with_fore,
    with_mark,
    without_mark,
)

HUES = range(8)
ALL_INKS = range(512)
MARK_BITS = (64, 128, 256)
NO_TEXTS = (None, True, False, 0, 64, 1.5, b"bold", ["bold"], ("bold",), {"bold": 1}, {"bold"}, object(), str)


def expected_text(ink):
    words = []
    if ink // 64 % 2 == 1:
        words.append("bold")
    if ink // 128 % 2 == 1:
        words.append("under")
    if ink // 256 % 2 == 1:
        words.append("turned")
    if ink % 8 > 0:
        words.append("fore " + str(ink % 8))
    if ink // 8 % 8 > 0:
        words.append("back " + str(ink // 8 % 8))
    return " ".join(words) if words else "plain"


class InksTest(unittest.TestCase):
    def assert_whole(self, told, expected, about=None):
        self.assertIs(type(told), int, about)
        self.assertEqual(told, expected, about)


class IsInkTest(InksTest):
    def test_each_ink_is_one(self):
        for ink in ALL_INKS:
            self.assertIs(is_ink(ink), True, ink)

    def test_numbers_beyond_are_none(self):
        for number in (-1, 512, -512, 513, 10**30, -(10**30)):
            self.assertIs(is_ink(number), False, number)

    def test_truths_are_none(self):
        self.assertIs(is_ink(True), False)
        self.assertIs(is_ink(False), False)

    def test_things_of_other_kinds_are_none(self):
        things = (None, "", "0", "plain", 0.0, 1.0, float("nan"), 1j, b"0", [], [0], (), (0,), {}, {0: 0}, {0})
        for thing in things + (object(), int, is_ink):
            self.assertIs(is_ink(thing), False, thing)


class PartsTest(InksTest):
    def test_parts_of_some_inks(self):
        for ink, fore, back, marks in ((0, 0, 0, 0), (511, 7, 7, 7), (7, 7, 0, 0), (56, 0, 7, 0), (448, 0, 0, 7)):
            self.assert_whole(fore_of(ink), fore, ink)
            self.assert_whole(back_of(ink), back, ink)
            self.assert_whole(marks_of(ink), marks, ink)
        self.assertEqual((fore_of(64 + 3 + 8 * 5), back_of(64 + 3 + 8 * 5), marks_of(64 + 3 + 8 * 5)), (3, 5, 1))
        self.assertEqual((marks_of(64), marks_of(128), marks_of(256)), (1, 2, 4))

    def test_each_ink_is_made_of_its_parts(self):
        for ink in ALL_INKS:
            self.assert_whole(fore_of(ink), ink % 8, ink)
            self.assert_whole(back_of(ink), ink // 8 % 8, ink)
            self.assert_whole(marks_of(ink), ink // 64, ink)
            self.assert_whole(ink_of(fore_of(ink), back_of(ink), marks_of(ink)), ink)

    def test_ink_of_without_marks_has_none(self):
        for fore in HUES:
            for back in HUES:
                self.assert_whole(ink_of(fore, back), fore + 8 * back)

    def test_ink_of_with_marks_by_place_and_by_name(self):
        self.assert_whole(ink_of(3, 5, 1), 107)
        self.assert_whole(ink_of(fore=3, back=5, marks=1), 107)
        self.assert_whole(ink_of(0, 0, 7), 448)
        self.assert_whole(ink_of(7, 7, 7), 511)


class ChangedInksTest(InksTest):
    def test_with_fore_changes_the_fore_hue_alone(self):
        for ink in ALL_INKS:
            for hue in HUES:
                self.assert_whole(with_fore(ink, hue), ink - ink % 8 + hue, (ink, hue))

    def test_with_back_changes_the_back_hue_alone(self):
        for ink in ALL_INKS:
            for hue in HUES:
                expected = ink // 64 * 64 + 8 * hue + ink % 8
                self.assert_whole(with_back(ink, hue), expected, (ink, hue))

    def test_with_mark_where_it_is_and_where_it_is_not(self):
        for ink in ALL_INKS:
            for mark, bit in enumerate(MARK_BITS):
                expected = ink if ink // bit % 2 == 1 else ink + bit
                self.assert_whole(with_mark(ink, mark), expected, (ink, mark))

    def test_without_mark_where_it_is_and_where_it_is_not(self):
        for ink in ALL_INKS:
            for mark, bit in enumerate(MARK_BITS):
                expected = ink - bit if ink // bit % 2 == 1 else ink
                self.assert_whole(without_mark(ink, mark), expected, (ink, mark))

    def test_turned_marks(self):
        self.assert_whole(turned_marks(0), 448)
        self.assert_whole(turned_marks(64 + 3), 128 + 256 + 3)
        self.assert_whole(turned_marks(511), 63)
        for ink in ALL_INKS:
            self.assert_whole(turned_marks(ink), ink % 64 + 64 * (7 - ink // 64), ink)


class InkTextTest(InksTest):
    def test_some_texts(self):
        self.assertEqual(ink_text(0), "plain")
        self.assertEqual(ink_text(64), "bold")
        self.assertEqual(ink_text(128), "under")
        self.assertEqual(ink_text(256), "turned")
        self.assertEqual(ink_text(1), "fore 1")
        self.assertEqual(ink_text(8), "back 1")
        self.assertEqual(ink_text(64 + 256 + 8 * 4), "bold turned back 4")
        self.assertEqual(ink_text(511), "bold under turned fore 7 back 7")

    def test_each_text(self):
        for ink in ALL_INKS:
            self.assertEqual(ink_text(ink), expected_text(ink))

    def test_plain_of_nought_alone(self):
        self.assertEqual([ink for ink in ALL_INKS if "plain" in ink_text(ink)], [0])

    def test_each_ink_is_read_again_from_its_text(self):
        for ink in ALL_INKS:
            self.assert_whole(ink_by_text(expected_text(ink)), ink)


class BadInkTest(InksTest):
    def assert_bad(self, thing):
        with self.assertRaises(BadInk, msg=repr(thing)):
            ink_by_text(thing)

    def test_words_in_another_order(self):
        for text in ("under bold", "turned under", "fore 1 bold", "back 1 fore 1", "back 2 turned", "1 fore"):
            self.assert_bad(text)

    def test_a_word_twice(self):
        for text in ("bold bold", "under under", "turned turned", "fore 1 fore 1", "fore 1 fore 2", "back 3 back 3"):
            self.assert_bad(text)

    def test_a_hue_without_its_number(self):
        for text in ("fore", "back", "bold fore", "fore back 1", "fore back", "fore ", "fore 1 back", "1", "bold 1"):
            self.assert_bad(text)

    def test_a_wrong_number(self):
        numbers = ("0", "8", "9", "10", "01", "-1", "+1", "1.0", "1 2", "one", "\u0661", "\u00b9", "1_", "None")
        for number in numbers:
            self.assert_bad("fore " + number)
            self.assert_bad("back " + number)
            self.assert_bad("bold fore 1 back " + number)

    def test_a_blank_too_many_or_too_few(self):
        texts = (" plain", "plain ", " bold", "bold ", "bold  under", "fore  1", "fore1", "boldunder", "bold fore1")
        others = ("bold\tunder", "bold\nunder", "bold\n", "plain\n", "fore 1back 1", "fore 1  back 1", "fore 1 ", " ")
        for text in texts + others:
            self.assert_bad(text)

    def test_great_letters(self):
        for text in ("Plain", "PLAIN", "Bold", "bold Under", "TURNED", "Fore 1", "fore 1 BACK 1"):
            self.assert_bad(text)

    def test_plain_beside_other_words(self):
        for text in ("plain plain", "plain bold", "bold plain", "plain fore 1", "fore 1 plain", "plain 0"):
            self.assert_bad(text)

    def test_an_empty_text_and_other_words(self):
        for text in ("", "0", "64", "red", "bold red", "red bold", "bold, under", "bol", "boldd", "\ud800", "\x00"):
            self.assert_bad(text)

    def test_things_that_are_no_text(self):
        for thing in NO_TEXTS:
            self.assert_bad(thing)

    def test_whatever_lies_one_sign_beside_a_text(self):
        texts = {expected_text(ink): ink for ink in ALL_INKS}
        for text in list(texts):
            for place in range(len(text)):
                shorter = text[:place] + text[place + 1 :]
                if shorter not in texts:
                    self.assert_bad(shorter)

    def test_what_is_refused_changes_nothing(self):
        self.assert_bad("bold bold")
        self.assert_whole(ink_by_text("bold"), 64)
        refused = ["bold"]
        self.assert_bad(refused)
        self.assertEqual(refused, ["bold"])


if __name__ == "__main__":
    unittest.main()
