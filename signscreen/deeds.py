"""Deeds: what is done by each thing that a reader tells, and the signs that it is read of."""

from signscreen.going import back_tab, go, on_tab, set_stop, take_stop, take_stops, to_left_edge, to_place
from signscreen.keeping import asked, begin_anew, keep, take_back
from signscreen.rolling import cut_lines, put_lines, roll
from signscreen.setting import dye, set_columns, set_rows, turn_modes
from signscreen.wiping import cut_cells, put_cells, wipe, wipe_cells
from signscreen.writing import again, line_end, put_sign


def number_at(numbers, place):
    return numbers[place] if place < len(numbers) else None


def do_without_number(state, letter):
    if letter == "h":
        to_left_edge(state)
    elif letter == "t":
        set_stop(state)
    elif letter == "T":
        take_stop(state)
    elif letter == "U":
        take_stops(state)
    elif letter == "v":
        keep(state)
    elif letter == "z":
        take_back(state)
    elif letter == "Z":
        begin_anew(state)


def do_with_one(state, letter, many):
    if letter in ("u", "d", "l", "r"):
        go(state, letter, many)
    elif letter == "y":
        on_tab(state, many)
    elif letter == "Y":
        back_tab(state, many)
    elif letter == "p":
        again(state, many)
    elif letter in ("R", "D"):
        roll(state, letter, many)
    elif letter == "i":
        put_lines(state, many)
    elif letter == "k":
        cut_lines(state, many)
    elif letter == "s":
        put_cells(state, many)
    elif letter == "x":
        cut_cells(state, many)
    elif letter == "e":
        wipe_cells(state, many)
    elif letter == "w":
        wipe(state, many)


def do_with_two(state, letter, first, second):
    if letter == "g":
        to_place(state, first, second)
    elif letter == "m":
        set_rows(state, first, second)
    elif letter == "M":
        set_columns(state, first, second)


def do_with_all(state, letter, numbers):
    if letter == "c":
        dye(state, numbers)
    elif letter == "o":
        turn_modes(state, numbers, True)
    elif letter == "f":
        turn_modes(state, numbers, False)


class Deed:
    def do(self, state):
        return []

    def signs(self):
        return ""


class Sign(Deed):
    def __init__(self, sign):
        self.sign = sign

    def do(self, state):
        put_sign(state, self.sign)
        return []

    def signs(self):
        return "~~" if self.sign == "~" else self.sign


class Line(Deed):
    def do(self, state):
        line_end(state)
        return []

    def signs(self):
        return "\n"


class Tab(Deed):
    def do(self, state):
        on_tab(state, 1)
        return []

    def signs(self):
        return "\t"


class Row(Deed):
    def __init__(self, letter, numbers):
        self.letter = letter
        self.numbers = numbers

    def do(self, state):
        if self.letter == "q":
            return asked(state, self.numbers)
        # A letter is a deed's in one of these at the most; each of the others passes it over.
        first = number_at(self.numbers, 0)
        do_without_number(state, self.letter)
        do_with_one(state, self.letter, first)
        do_with_two(state, self.letter, first, number_at(self.numbers, 1))
        do_with_all(state, self.letter, self.numbers)
        return []

    def signs(self):
        body = ";".join(["" if number is None else str(number) for number in self.numbers])
        return "~" + body + self.letter


def deed_of(read):
    if read[0] == "sign":
        return Sign(read[1])
    if read[0] == "line":
        return Line()
    if read[0] == "tab":
        return Tab()
    return Row(read[1], read[2])
