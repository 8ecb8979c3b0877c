"""Long rows of deeds, one behind another: a state stays a state, and the same deeds lead to the same."""

import random
import unittest

from signscreen.cells import is_picture, size_of
from signscreen.going import back_tab, go, on_tab, set_stop, take_stop, take_stops, to_home, to_left_edge, to_place
from signscreen.inks import is_ink
from signscreen.rolling import cut_lines, put_lines, roll, roll_down, roll_up
from signscreen.setting import dye, set_columns, set_rows, turn_modes
from signscreen.state import State, edges
from signscreen.wiping import cut_cells, put_cells, wipe, wipe_cells
from signscreen.writing import again, line_end, put_sign
from tests.states import SIGNS, StateCase, fields_of

COUNTED = (on_tab, back_tab, again, put_lines, cut_lines, put_cells, cut_cells, wipe_cells, wipe)
ALONE = (to_left_edge, to_home, set_stop, take_stop, take_stops, line_end)
PAIRS = (to_place, set_rows, set_columns)
NUMBERS = (None, 0, 1, 1, 2, 3, 4, 5, 7, 10, 12, 13, 24, 25, 999)
TOLD = NUMBERS + (6, 11, 14, 17, 20, 21, 27)


def some_deed(chance, state):
    kind = chance.randrange(8)
    if kind == 0:
        return chance.choice(COUNTED), (chance.choice(NUMBERS),)
    if kind == 1:
        return chance.choice(ALONE), ()
    if kind == 2:
        return chance.choice(PAIRS), (chance.choice(NUMBERS), chance.choice(NUMBERS))
    if kind == 3:
        return go, (chance.choice("udlr"), chance.choice(NUMBERS))
    if kind == 4:
        deed, given = chance.choice(((roll, ("R",)), (roll, ("D",)), (roll_up, None), (roll_down, None)))
        first = (chance.randint(state.top, state.bottom),)
        return deed, (given or first) + (chance.choice(NUMBERS[1:]),)
    if kind == 5:
        return dye, (tuple(chance.choices(TOLD, k=chance.randint(1, 6))),)
    if kind == 6:
        return turn_modes, (tuple(chance.choices(NUMBERS, k=chance.randint(1, 3))), chance.choice((True, False)))
    return put_sign, (chance.choice(SIGNS + [" "]),)


class TogetherTest(StateCase):
    def check_whole(self, state, wide, high, words):
        self.check_form(state)
        self.assertTrue(is_picture(state.picture), words)
        self.assertEqual((size_of(state.picture), state.wide, state.high), ((wide, high), wide, high), words)
        self.assertTrue(is_ink(state.ink), words)
        self.assertTrue(0 <= state.top <= state.bottom < high and 0 <= state.left <= state.right < wide, words)
        top, bottom, left, right = edges(state)
        self.assertTrue(top <= state.row <= bottom and left <= state.column <= right, words)
        self.assertTrue(all(0 <= column < wide for column in state.stops), words)

    def test_a_state_stays_a_state(self):
        for seed in range(60):
            chance = random.Random(seed)
            wide, high = chance.choice(((1, 1), (24, 12), (5, 4), (1, 6), (7, 1), (9, 3)))
            state = State(wide, high)
            same = State(wide, high)
            for turn in range(80):
                deed, given = some_deed(chance, state)
                words = (seed, turn, deed.__name__, given)
                self.assertIsNone(deed(state, *given), words)
                deed(same, *given)
                self.check_whole(state, wide, high, words)
            self.assertEqual(fields_of(state), fields_of(same), seed)


if __name__ == "__main__":
    unittest.main()
