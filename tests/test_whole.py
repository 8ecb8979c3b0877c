"""Over the whole screen: promises [6] to [22], held against a plain going by the document's words."""

import random
import unittest

from signscreen.screen import Screen
from tests.drawn import DEED_LETTERS, LETTERS, drawn_pieces, drawn_text
from tests.model import Model, told_by

SMALL_SIZES = ((1, 1), (1, 2), (2, 1), (2, 2), (3, 2), (1, 5), (5, 1), (4, 3), (3, 4), (5, 5), (9, 4), (6, 7))
GREAT_SIZES = ((24, 12), (24, 1), (1, 12), (13, 8), (24, 5), (8, 12))


class WholeTest(unittest.TestCase):
    maxDiff = None

    def check_alike(self, screen, model, words):
        told = told_by(screen)
        for name, expected in model.told().items():
            self.assertEqual(told[name], expected, (name, words))
            self.assertIs(type(told[name]), type(expected), (name, words))

    def check_pieces(self, wide, high, pieces, words):
        screen = Screen(wide, high)
        model = Model(wide, high)
        for number, piece in enumerate(pieces):
            here = (words, (wide, high), number, piece)
            self.assertEqual(screen.feed(piece), model.feed(piece), here)
            self.check_alike(screen, model, here)

    def check_drawn(self, sizes, seeds, many):
        for seed in seeds:
            chance = random.Random(seed)
            wide, high = chance.choice(sizes)
            text = drawn_text(chance, many)
            self.check_pieces(wide, high, drawn_pieces(chance, text), seed)

    def test_each_letter_in_many_states(self):
        for seed in range(120):
            chance = random.Random(seed)
            wide, high = chance.choice(SMALL_SIZES)
            ahead = drawn_text(chance, 25)
            for letter in LETTERS:
                numbers = chance.choices(("", "0", "1", "2", "3", "4", "5"), k=chance.randint(1, 3))
                row = "~" + ";".join(numbers) + letter
                self.check_pieces(wide, high, [ahead, row, "ab\tc\n~0;1;2;3q"], (seed, letter))

    def test_texts_on_small_screens(self):
        self.check_drawn(SMALL_SIZES, range(1000, 1250), 120)

    def test_texts_on_great_screens(self):
        self.check_drawn(GREAT_SIZES, range(2000, 2060), 200)

    def test_all_letters_are_drawn(self):
        """The texts of these tests have each deed in them, with and without numbers."""
        text = "".join(drawn_text(random.Random(seed), 120) for seed in range(1000, 1250))
        for letter in DEED_LETTERS:
            self.assertGreater(text.count("~" + letter), 5, letter)
            self.assertGreater(text.count("2" + letter), 5, letter)

    def test_cut_anywhere_it_leads_to_the_same(self):
        for seed in range(3000, 3040):
            chance = random.Random(seed)
            wide, high = chance.choice(SMALL_SIZES + GREAT_SIZES)
            text = drawn_text(chance, 80)
            whole = Screen(wide, high)
            answers = whole.feed(text)
            for pieces in (drawn_pieces(chance, text), list(text), ["", text, ""], [text[:7], text[7:]]):
                screen = Screen(wide, high)
                told = [answer for piece in pieces for answer in screen.feed(piece)]
                self.assertEqual(told, answers, (seed, pieces))
                self.assertEqual(told_by(screen), told_by(whole), (seed, pieces))

    def test_cut_at_each_place(self):
        text = "a~2;3gb~~~1;13cc~3 d~;;~2u~1q~v\te\n~99;1000xf~2;3;2q~;;;;;;g~~~z~2"
        whole = Screen(7, 4)
        answers = whole.feed(text)
        self.assertEqual(whole.open_row(), "~2")
        for first in range(len(text) + 1):
            for second in range(first, len(text) + 1):
                screen = Screen(7, 4)
                told = []
                for piece in (text[:first], text[first:second], text[second:]):
                    told.extend(screen.feed(piece))
                self.assertEqual(told, answers, (first, second))
                self.assertEqual(told_by(screen), told_by(whole), (first, second))

    def test_two_screens_do_not_disturb_one_another(self):
        for seed in range(4000, 4020):
            chance = random.Random(seed)
            wide, high = chance.choice(SMALL_SIZES)
            screens = [Screen(wide, high), Screen(wide, high)]
            models = [Model(wide, high), Model(wide, high)]
            for turn in range(40):
                which = chance.randrange(2)
                piece = drawn_text(chance, 3)[: chance.randint(0, 12)]
                self.assertEqual(screens[which].feed(piece), models[which].feed(piece), (seed, turn))
                for screen, model in zip(screens, models):
                    self.check_alike(screen, model, (seed, turn))


if __name__ == "__main__":
    unittest.main()
