"""reader.py: promises [4], [5] and [6], and promise [1] as far as it speaks of reading."""

import itertools
import unittest

from signscreen.reader import Reader, parted

LETTERS = "abcdefghijklmnopqrstuvwxyzABCDEFGHIJKLMNOPQRSTUVWXYZ"
FIGURES = "0123456789"
WRITTEN = "".join(chr(number) for number in range(32, 126) if number != 37)


def read(text):
    return Reader().read(text)


def signs(text):
    return [("sign", sign) for sign in text]


class PartedTest(unittest.TestCase):
    def check(self, body, numbers):
        told = parted(body)
        self.assertEqual(told, numbers, body)
        if numbers is not None:
            self.assertIs(type(told), tuple, body)
            for number in told:
                self.assertIn(type(number), (int, type(None)), body)

    def test_nothing_written_is_one_none(self):
        self.check("", (None,))

    def test_one_number(self):
        for number in range(1000):
            self.check(str(number), (number,))

    def test_several_numbers_and_nones(self):
        self.check("3;;7", (3, None, 7))
        self.check(";", (None, None))
        self.check(";;", (None, None, None))
        self.check("1;", (1, None))
        self.check(";1", (None, 1))
        self.check("12;345;6", (12, 345, 6))
        self.check("0;;0", (0, None, 0))

    def test_noughts_ahead_may_stand(self):
        self.check("0", (0,))
        self.check("00", (0,))
        self.check("000", (0,))
        self.check("007", (7,))
        self.check("010;09;1", (10, 9, 1))

    def test_six_numbers_and_seven(self):
        self.check("1;2;3;4;5;6", (1, 2, 3, 4, 5, 6))
        self.check(";;;;;", (None,) * 6)
        self.check("999;999;999;999;999;999", (999,) * 6)
        self.check("1;2;3;4;5;6;7", None)
        self.check(";;;;;;", None)
        self.check("1;2;3;4;5;6;", None)
        self.check(";1;2;3;4;5;6", None)
        self.check(";" * 100, None)

    def test_three_figures_and_four(self):
        self.check("999", (999,))
        self.check("1000", None)
        self.check("0000", None)
        self.check("0001", None)
        self.check("1234", None)
        self.check("1;1234", None)
        self.check("1234;1", None)
        self.check("1;2;3;4;5;0006", None)
        self.check("100;200;300", (100, 200, 300))
        self.check("1" * 5000, None)


class ReadTest(unittest.TestCase):
    def check(self, text, found, left=""):
        reader = Reader()
        told = reader.read(text)
        self.assertEqual(told, found, repr(text))
        self.assertEqual(reader.open_row(), left, repr(text))
        self.assertIs(type(told), list)
        for one in told:
            self.assertIs(type(one), tuple)
            if one[0] == "row":
                self.assertIs(type(one[2]), tuple)

    def test_a_text_of_no_signs(self):
        self.check("", [])

    def test_each_sign_but_the_opening_one_is_written(self):
        self.assertEqual(len(WRITTEN), 93)
        for sign in WRITTEN:
            self.check(sign, [("sign", sign)])
        self.check(WRITTEN, signs(WRITTEN))

    def test_figures_semicolons_and_letters_without_a_row_are_written(self):
        self.check("3;4u", signs("3;4u"))
        self.check(";", signs(";"))

    def test_tabs_and_line_ends(self):
        self.check("\t", [("tab",)])
        self.check("\n", [("line",)])
        self.check("a\tb\n\n\tc", signs("a") + [("tab",)] + signs("b") + [("line",), ("line",), ("tab",)] + signs("c"))

    def test_rows_with_any_letter(self):
        for letter in LETTERS:
            self.check("~" + letter, [("row", letter, (None,))])
            self.check("~3;;7" + letter, [("row", letter, (3, None, 7))])
            self.check("~" + letter + letter, [("row", letter, (None,)), ("sign", letter)])

    def test_the_numbers_of_rows(self):
        self.check("~0u", [("row", "u", (0,))])
        self.check("~007u", [("row", "u", (7,))])
        self.check("~999u", [("row", "u", (999,))])
        self.check("~;u", [("row", "u", (None, None))])
        self.check("~;5g", [("row", "g", (None, 5))])
        self.check("~5;g", [("row", "g", (5, None))])
        self.check("~1;2;3;4;5;6c", [("row", "c", (1, 2, 3, 4, 5, 6))])
        self.check("~;;;;;c", [("row", "c", (None,) * 6)])

    def test_each_figure_and_the_semicolon_stand_in_a_row(self):
        for figure in FIGURES:
            self.check("~" + figure, [], "~" + figure)
            self.check("~" + figure + "q", [("row", "q", (int(figure),))])
        self.check("~;", [], "~;")

    def test_rows_with_too_much_are_read_to_their_letter(self):
        for body in ("1;2;3;4;5;6;7", ";;;;;;", "1234", "0001", "1;0000", "1" * 300, ";" * 300):
            for letter in ("u", "c", "Z", "a"):
                self.check("~" + body + letter, [])
                self.check("a~" + body + letter + "1b", signs("a1b"))
                self.check("~" + body + letter + "~2d", [("row", "d", (2,))])
            self.check("~" + body, [], "~" + body)
            self.check("~" + body + " u", signs(" u"))
            self.check("~" + body + "~3u", [("row", "u", (3,))])

    def test_the_opening_sign_twice_writes_it(self):
        self.check("~~", signs("~"))
        self.check("~~u", signs("~u"))
        self.check("~~~~", signs("~~"))
        self.check("~~3u", signs("~3u"))
        self.check("~~~3u", signs("~") + [("row", "u", (3,))])
        self.check("~~~", signs("~"), "~")

    def test_an_opening_sign_within_a_row_opens_anew(self):
        self.check("~3~4u", [("row", "u", (4,))])
        self.check("~3~", [], "~")
        self.check("~;~~", signs("~"))
        self.check("~;~~u", signs("~u"))
        self.check("~;~;~;", [], "~;")
        self.check("~1~2~3~4r", [("row", "r", (4,))])
        self.check("~3~~4u", signs("~4u"))

    def test_other_signs_drop_the_row_and_are_read_as_without_one(self):
        self.check("~3 x", signs(" x"))
        self.check("~ x", signs(" x"))
        for sign in WRITTEN:
            if sign in LETTERS or sign in FIGURES or sign == ";":
                continue
            self.check("~" + sign + "u", signs(sign + "u"))
            self.check("~3" + sign + "u", signs(sign + "u"))
            self.check("~;" + sign + "4u", signs(sign + "4u"))

    def test_tabs_and_line_ends_cut_a_row(self):
        for sign, found in (("\t", ("tab",)), ("\n", ("line",))):
            self.check("~" + sign, [found])
            self.check("~3" + sign + "u", [found] + signs("u"))
            self.check("~3;" + sign + "4u", [found] + signs("4u"))
            self.check("~3" + sign + "~4u", [found, ("row", "u", (4,))])
            self.check("~" + sign + "~", [found], "~")

    def test_rows_behind_one_another(self):
        self.check(
            "a~2u~;3g~~b\n~k",
            signs("a")
            + [("row", "u", (2,)), ("row", "g", (None, 3))]
            + signs("~b")
            + [("line",), ("row", "k", (None,))],
        )

    def test_the_open_row(self):
        self.assertEqual(Reader().open_row(), "")
        for text in ("~", "~1", "~1;", "~;;", "~12;34;", "~0007;1;2;3;4;5;6;7", "~" + "9" * 2000):
            self.check(text, [], text)
            self.check("ab" + text, signs("ab"), text)
            self.check(text + "m" + text, Reader().read(text + "m"), text)
            self.check(text + "!" + text, signs("!"), text)

    def test_the_open_row_stays_behind_a_text_of_no_signs(self):
        reader = Reader()
        self.assertEqual(reader.read("x~3;"), signs("x"))
        for again in range(3):
            self.assertEqual(reader.read(""), [])
            self.assertEqual(reader.open_row(), "~3;")
        self.assertEqual(reader.read("4g"), [("row", "g", (3, 4))])
        self.assertEqual(reader.open_row(), "")
        self.assertEqual(reader.read(""), [])
        self.assertEqual(reader.open_row(), "")


class PiecesTest(unittest.TestCase):
    TEXT = "ab~3~4u~~x~;~~\t~1;2;3;4;5;6;7kz~12\n~0001q~;;9g ~ y~007;c~~~5;"

    def whole(self, text):
        reader = Reader()
        return reader.read(text), reader.open_row()

    def check_pieces(self, pieces):
        reader = Reader()
        found = []
        fed = ""
        for piece in pieces:
            found.extend(reader.read(piece))
            fed += piece
            # What was read so far and what is open is as of the same signs in one piece.
            self.assertEqual((found, reader.open_row()), self.whole(fed), pieces)

    def test_the_text_as_a_whole(self):
        row = ("row", "u", (4,))
        expected = signs("ab") + [row] + signs("~x~") + [("tab",)] + signs("z") + [("line",)]
        expected += [("row", "g", (None, None, 9))] + signs("  y") + [("row", "c", (7, None))] + signs("~")
        self.assertEqual(self.whole(self.TEXT), (expected, "~5;"))

    def test_sign_by_sign(self):
        self.check_pieces(list(self.TEXT))

    def test_pieces_of_no_signs_between(self):
        self.check_pieces([piece for sign in self.TEXT for piece in ("", sign, "")])

    def test_each_way_of_cutting_once_or_twice(self):
        for first in range(len(self.TEXT) + 1):
            self.check_pieces([self.TEXT[:first], self.TEXT[first:]])
            for second in range(first, len(self.TEXT) + 1, 5):
                self.check_pieces([self.TEXT[:first], self.TEXT[first:second], self.TEXT[second:]])

    def test_pieces_of_each_length(self):
        for length in range(1, 12):
            self.check_pieces([self.TEXT[at : at + length] for at in range(0, len(self.TEXT), length)])

    def test_all_short_texts_sign_by_sign(self):
        for text in itertools.product("~1;u \n", repeat=5):
            self.check_pieces(list(text))

    def test_all_short_texts_against_their_words(self):
        for length in range(6):
            for text in itertools.product("~1;u \t", repeat=length):
                self.assertEqual(self.whole("".join(text)), by_words("".join(text)), text)

    def test_two_readers_do_not_disturb_one_another(self):
        one = Reader()
        other = Reader()
        self.assertEqual(one.read("~3"), [])
        self.assertEqual(other.open_row(), "")
        self.assertEqual(other.read("4u"), signs("4u"))
        self.assertEqual(one.open_row(), "~3")
        self.assertEqual(other.read("~;"), [])
        self.assertEqual(one.read("4u"), [("row", "u", (34,))])
        self.assertEqual(other.open_row(), "~;")
        self.assertEqual(Reader().open_row(), "")

    def test_a_told_list_is_the_askers_own(self):
        reader = Reader()
        first = reader.read("a~2")
        first.append(("sign", "b"))
        first[0] = ("tab",)
        self.assertEqual(reader.open_row(), "~2")
        second = reader.read("u")
        self.assertEqual(second, [("row", "u", (2,))])
        self.assertEqual(first, [("tab",), ("sign", "b")])
        second.clear()
        nothing = reader.read("")
        nothing.append(1)
        self.assertEqual(reader.read(""), [])
        self.assertEqual(reader.read("c"), signs("c"))
        self.assertEqual(Reader().read(""), [])


def by_words(text):
    """What is read, and left open, told by looking ahead in the whole text in the place of a state."""
    found = []
    at = 0
    while at < len(text):
        if text[at] != "~":
            found.append({"\t": ("tab",), "\n": ("line",)}.get(text[at], ("sign", text[at])))
            at += 1
            continue
        behind = at + 1
        while behind < len(text) and text[behind] in FIGURES + ";":
            behind += 1
        if behind == len(text):
            return found, text[at:]
        if text[behind] in LETTERS:
            numbers = parted(text[at + 1 : behind])
            found.extend([] if numbers is None else [("row", text[behind], numbers)])
            at = behind + 1
        elif text[behind] == "~" and behind == at + 1:
            found.append(("sign", "~"))
            at = behind + 1
        else:
            at = behind
    return found, ""


if __name__ == "__main__":
    unittest.main()
