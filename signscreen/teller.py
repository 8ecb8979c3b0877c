"""Telling a way as the signs that do it on any screen."""

from signscreen.cells import need_picture
from signscreen.deeds import Row
from signscreen.inks import back_of, fore_of, with_mark
from signscreen.ways import least_way

# The window is the whole, wrap is on, insert and home are off, the ink is plain.
BEGINNING = "~m~M~1o~2;3f~c"


def ink_signs(ink):
    marks = [mark + 1 for mark in range(3) if with_mark(ink, mark) == ink]
    return Row("c", tuple([0] + marks + [10 + fore_of(ink), 20 + back_of(ink)])).signs()


def place_signs(row, column):
    return Row("g", (row + 1, column + 1)).signs()


def moving_signs(letter, row, many):
    return Row("g", (row + 1,)).signs() + Row(letter, (many,)).signs()


def deed_signs(deed):
    if deed[0] == "cut":
        return moving_signs("k", deed[1], deed[2])
    if deed[0] == "put":
        return moving_signs("i", deed[1], deed[2])
    return place_signs(deed[1], deed[2]) + ink_signs(deed[4]) + deed[3].replace("~", "~~")


def signs_of(way, row=0, column=0, ink=0):
    deeds = "".join([deed_signs(deed) for deed in way])
    return BEGINNING + deeds + place_signs(row, column) + ink_signs(ink)


def leads(one, other, row=0, column=0, ink=0):
    need_picture(one)
    need_picture(other)
    return signs_of(least_way(one, other), row, column, ink)
