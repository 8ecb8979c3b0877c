"""screen.py: promises [1] and [6], and each function of a screen."""

import unittest

from signscreen.cells import is_picture, size_of
from signscreen.errors import BadSize, ScreenError
from signscreen.screen import Screen
from tests.drawn import LETTERS
from tests.model import told_by
from tests.states import SIGNS
from tests.test_state import NO_HEIGHTS, NO_WIDTHS, SIZES

WRITTEN = "".join(SIGNS[:-1]) + " "


def fed(text, wide=9, high=4):
    screen = Screen(wide, high)
    screen.feed(text)
    return screen


class FirstTest(unittest.TestCase):
    def test_all_at_first(self):
        for wide, high in SIZES:
            expected = {
                "told_picture": [[(" ", 0)] * wide for row in range(high)],
                "cursor": (0, 0),
                "is_late": False,
                "told_ink": 0,
                "modes": (True, False, False),
                "window": (0, high - 1, 0, wide - 1),
                "told_stops": [column for column in range(1, wide) if column % 4 == 0],
                "many_kept": 0,
                "open_row": "",
                "lines": [" " * wide] * high,
            }
            screen = Screen(wide, high)
            self.assertEqual(told_by(screen), expected, (wide, high))
            for name, value in told_by(screen).items():
                self.assertIs(type(value), type(expected[name]), name)

    def test_no_size(self):
        for wide in NO_WIDTHS:
            for high in (1, 12) + NO_HEIGHTS:
                self.assertRaises(BadSize, Screen, wide, high)
        for high in NO_HEIGHTS:
            for wide in (1, 24):
                self.assertRaises(BadSize, Screen, wide, high)
        self.assertRaises(ScreenError, Screen, 25, 12)

    def test_all_sizes_are_taken(self):
        for wide in range(1, 25):
            for high in range(1, 13):
                self.assertEqual(size_of(Screen(wide, high).told_picture()), (wide, high))


class FeedTest(unittest.TestCase):
    def check_answers(self, text, answers, wide=9, high=4):
        told = Screen(wide, high).feed(text)
        self.assertEqual(told, answers, text)
        self.assertIs(type(told), list, text)

    def test_no_answers(self):
        for text in ("", "a", "\n", "\t", "~~", "~", "~3;", "~u", "~4q", "~b", "~Q", "~1000q", "~1;1;1;1;1;1;1q"):
            self.check_answers(text, [])

    def test_answers_in_order(self):
        self.check_answers("~q", ["1;1"])
        self.check_answers("ab~q\n~1q~2q", ["1;3", "2;1", "9x4"])
        self.check_answers("~0;1;2;3q", ["1;1", "1;1", "9x4", "plain"])
        self.check_answers("~3q~1;13c~3q~c~3q", ["plain", "bold fore 3", "plain"])
        self.check_answers("~3;2;9;;;4q~2q", ["plain", "9x4", "1;1", "1;1", "9x4"])
        self.check_answers("~3;4m~5;6M~3o~q~3f~q", ["1;1", "1;1"])
        self.check_answers("~v~3;4m~5;9M~3o~q~v~f~3f~q~z~q~z~q", ["1;1", "1;1", "1;1", "1;1"])

    def test_places_above_the_window(self):
        self.check_answers("~3o~v~3;4m~5;6M~z~q", ["-1;-3"])
        self.check_answers("~3o~v~2m~2M~z~q", ["0;0"])

    def test_an_answer_may_come_in_a_later_piece(self):
        screen = Screen(9, 4)
        self.assertEqual(screen.feed("ab~"), [])
        self.assertEqual(screen.feed("1;"), [])
        self.assertEqual(screen.feed(""), [])
        self.assertEqual(screen.open_row(), "~1;")
        self.assertEqual(screen.feed("2q~2q~"), ["1;3", "9x4", "9x4"])
        self.assertEqual(screen.open_row(), "~")

    def test_answers_are_the_askers_own(self):
        screen = Screen(9, 4)
        told = screen.feed("~2q")
        told.append("x")
        self.assertEqual(screen.feed("~2q"), ["9x4"])
        nothing = screen.feed("")
        nothing.append("x")
        self.assertEqual(screen.feed(""), [])
        self.assertEqual(told, ["9x4", "x"])

    def test_all_signs_are_written(self):
        for sign in WRITTEN:
            screen = fed(sign)
            self.assertEqual(screen.told_picture()[0][0], (sign, 0), sign)
            self.assertEqual(screen.cursor(), (0, 1), sign)
        self.assertEqual(fed("~~").told_picture()[0][0], ("~", 0))

    def test_rows_that_are_dropped(self):
        self.assertEqual(fed("~3 x").lines()[0], " x       ")
        self.assertEqual(fed("~~").lines()[0], "~        ")
        self.assertEqual(fed("~;~~").lines()[0], "~        ")
        self.assertEqual(fed("~~~~").lines()[0], "~~       ")
        self.assertEqual(fed("~3-a").lines()[0], "-a       ")
        self.assertEqual(fed("\n\n\n~3~2ua").lines(), [" " * 9, "a" + " " * 8, " " * 9, " " * 9])
        self.assertEqual(fed("~3\na").lines()[1], "a        ")
        self.assertEqual(fed("~3\ta").lines()[0], "    a    ")
        self.assertEqual(fed("~3 x").open_row(), "")

    def test_rows_with_too_much_do_nothing(self):
        for row in ("~1;2;3;4;5;6;7g", "~;;;;;;g", "~0003g", "~3;1000g", "~9999u", "~;;;;;;Z", "~0001c"):
            screen = fed("ab" + row + "c")
            self.assertEqual(screen.lines()[0], "abc      ", row)
            self.assertEqual((screen.cursor(), screen.told_ink(), screen.open_row()), ((0, 3), 0, ""), row)

    def test_letters_that_are_no_deeds_do_nothing(self):
        for letter in LETTERS:
            if letter in "udlrhgyYtTUmMcofpiksxewRDvzZq":
                continue
            screen = fed("a" * 9)
            ahead = told_by(screen)
            self.assertTrue(ahead["is_late"])
            self.assertEqual(screen.feed("~" + letter + "~2;3" + letter), [])
            self.assertEqual(told_by(screen), ahead, letter)

    def test_an_open_row_at_the_end_of_a_piece(self):
        screen = Screen(9, 4)
        for piece, row in (("a~", "~"), ("", "~"), ("1", "~1"), (";", "~1;"), ("22", "~1;22"), ("q", ""), ("~;", "~;")):
            screen.feed(piece)
            self.assertEqual(screen.open_row(), row)
        screen.feed("~")
        self.assertEqual(screen.open_row(), "~")
        screen.feed("~")
        self.assertEqual((screen.open_row(), screen.lines()[0]), ("", "a~       "))

    def test_beginning_anew_with_a_row_behind(self):
        screen = fed("ab~1c~v~2;3m~Z~2")
        self.assertEqual(dict(told_by(screen), open_row=""), told_by(Screen(9, 4)))
        self.assertEqual(screen.open_row(), "~2")


class ToldTest(unittest.TestCase):
    def test_writing(self):
        screen = fed("ab\n~1;13cc\td~~")
        self.assertEqual(screen.lines(), ["ab       ", "c   d~   ", "         ", "         "])
        picture = screen.told_picture()
        self.assertTrue(is_picture(picture))
        self.assertEqual(picture[0][:3], [("a", 0), ("b", 0), (" ", 0)])
        self.assertEqual(picture[1][:6], [("c", 67), (" ", 0), (" ", 0), (" ", 0), ("d", 67), ("~", 67)])
        self.assertEqual(screen.cursor(), (1, 6))
        self.assertEqual(screen.told_ink(), 67)

    def test_late(self):
        self.assertIs(fed("abcdefgh").is_late(), False)
        self.assertIs(fed("abcdefghi").is_late(), True)
        self.assertEqual(fed("abcdefghi").cursor(), (0, 8))
        self.assertEqual(fed("abcdefghij").cursor(), (1, 1))
        self.assertIs(fed("~1fabcdefghi").is_late(), False)
        self.assertEqual(fed("~1fabcdefghij").lines()[0], "abcdefghj")

    def test_wrapping_at_the_bottom_rolls(self):
        screen = fed("abcdefghi" * 4 + "j")
        self.assertEqual(screen.lines(), ["abcdefghi"] * 3 + ["j        "])
        self.assertEqual(screen.cursor(), (3, 1))

    def test_modes(self):
        self.assertEqual(fed("~2;3o").modes(), (True, True, True))
        self.assertEqual(fed("~1f").modes(), (False, False, False))
        self.assertEqual(fed("~1;2;3o~1;3f").modes(), (False, True, False))
        for truth in fed("~2o").modes():
            self.assertIs(type(truth), bool)
        self.assertEqual(fed("ab~g~2oc").lines()[0], "cab      ")

    def test_windows(self):
        screen = fed("~2;3m~3;5M")
        self.assertEqual((screen.window(), screen.cursor()), ((1, 2, 2, 4), (0, 0)))
        screen.feed("~3o")
        self.assertEqual((screen.window(), screen.cursor()), ((1, 2, 2, 4), (1, 2)))
        screen.feed("abcdefgh")
        self.assertEqual(screen.lines(), ["         ", "  def    ", "  gh     ", "         "])

    def test_stops(self):
        self.assertEqual(fed("").told_stops(), [4, 8])
        self.assertEqual(fed("~1;7g~t~1;2g~t").told_stops(), [1, 4, 6, 8])
        self.assertEqual(fed("~1;5g~T").told_stops(), [8])
        self.assertEqual(fed("~U").told_stops(), [])
        self.assertEqual(fed("~U~1;9g~t~h~t~1;4g~t").told_stops(), [0, 3, 8])

    def test_kept(self):
        self.assertEqual([fed("~v" * many).many_kept() for many in range(12)], [0, 1, 2, 3, 4, 5, 6, 7, 8, 8, 8, 8])
        self.assertEqual(fed("~v~v~z").many_kept(), 1)
        self.assertEqual(fed("~v~z~z").many_kept(), 0)
        self.assertEqual(fed("~v~v~Z").many_kept(), 0)
        screen = fed("ab~1c~v~3;3g~c~z")
        self.assertEqual((screen.cursor(), screen.told_ink()), ((0, 2), 64))

    def test_the_numbers_told_are_whole(self):
        screen = fed("~2;3m~3;5Mab~1c")
        for number in screen.cursor() + screen.window() + (screen.told_ink(), screen.many_kept()):
            self.assertIs(type(number), int)


class OwnTest(unittest.TestCase):
    def test_what_is_told_is_the_askers_own(self):
        screen = fed("ab~v\n~1cc")
        ahead = told_by(screen)
        picture = screen.told_picture()
        picture[0][0] = ("x", 5)
        picture[1].append(("y", 6))
        picture.pop()
        screen.told_stops().append(3)
        screen.told_stops().clear()
        lines = screen.lines()
        lines[0] = "x"
        lines.pop()
        self.assertEqual(told_by(screen), ahead)

    def test_what_was_told_stays(self):
        screen = fed("ab")
        told = told_by(screen)
        kept = told_by(fed("ab"))
        screen.feed("~1cxyz\n~t~v~2;3m~5w~U~Z")
        self.assertEqual(told, kept)

    def test_rows_of_one_told_picture_are_not_one(self):
        picture = Screen(3, 3).told_picture()
        picture[0][0] = ("x", 1)
        self.assertEqual(picture[1:], [[(" ", 0)] * 3] * 2)

    def test_asking_changes_nothing(self):
        screen = fed("abcdefghi~v~1c~3")
        self.assertEqual(told_by(screen), told_by(screen))
        self.assertEqual((screen.is_late(), screen.open_row()), (True, "~3"))

    def test_two_screens(self):
        one = Screen(9, 4)
        other = Screen(9, 4)
        one.feed("ab~1c~v~t~2;3m~3o~2")
        self.assertEqual(told_by(other), told_by(Screen(9, 4)))
        other.feed("~Zcd")
        self.assertEqual(one.lines()[0], "ab       ")
        self.assertEqual((one.open_row(), one.many_kept()), ("~2", 1))


if __name__ == "__main__":
    unittest.main()
