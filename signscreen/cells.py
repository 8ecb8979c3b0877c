"""Cells, (sign, ink), and pictures: lists of rows, each a list of cells."""

from signscreen.errors import BadPicture, BadSize, Unlike
from signscreen.inks import is_ink, is_whole

WIDEST = 24
HIGHEST = 12
# By its number, as no text of the package may hold the sign itself.
PERCENT_SIGN = 37


def is_sign(thing):
    if not isinstance(thing, str) or len(thing) != 1:
        return False
    return " " <= thing <= "~" and ord(thing) != PERCENT_SIGN


def is_cell(thing):
    if not isinstance(thing, tuple) or len(thing) != 2:
        return False
    return is_sign(thing[0]) and is_ink(thing[1])


def is_size(wide, high):
    return is_whole(wide, 1, WIDEST) and is_whole(high, 1, HIGHEST)


def is_row(thing, wide):
    if not isinstance(thing, list) or len(thing) != wide:
        return False
    return all([is_cell(cell) for cell in thing])


def is_picture(thing):
    if not isinstance(thing, list) or len(thing) == 0 or not isinstance(thing[0], list):
        return False
    wide = len(thing[0])
    return is_size(wide, len(thing)) and all([is_row(row, wide) for row in thing])


def need_picture(picture):
    if not is_picture(picture):
        raise BadPicture("a picture is a list of 1 to 12 rows, alike many cells each, 1 to 24")


def size_of(picture):
    return (len(picture[0]), len(picture))


def blank_row(wide, ink=0):
    return [(" ", ink) for column in range(wide)]


def blank_picture(wide, high, ink=0):
    if not is_size(wide, high):
        raise BadSize("a picture is 1 to 24 cells wide and 1 to 12 rows high")
    return [blank_row(wide, ink) for row in range(high)]


def copied(picture):
    return [list(row) for row in picture]


def text_of(row):
    return "".join([cell[0] for cell in row])


def need_one_size(one, other):
    if size_of(one) != size_of(other):
        raise Unlike("the pictures differ in size")


def unlike_cells(one, other):
    need_one_size(one, other)
    places = []
    for row in range(len(one)):
        for column in range(len(one[row])):
            if one[row][column] != other[row][column]:
                places.append((row, column))
    return places
