"""Rows of cells: their stretches of one ink, and the writings that make one row another one."""

from signscreen.cells import text_of


def alike_spans(things):
    found = []
    first = 0
    for place in range(1, len(things) + 1):
        if place == len(things) or things[place] != things[first]:
            found.append((first, place))
            first = place
    return found


def stretches(row):
    inks = [cell[1] for cell in row]
    return [(first, behind, inks[first]) for first, behind in alike_spans(inks)]


def writings(row, one, other):
    found = []
    for first, behind, ink in stretches(other):
        unlike = [column for column in range(first, behind) if one[column] != other[column]]
        if unlike:
            text = text_of(other[unlike[0] : unlike[-1] + 1])
            found.append(("write", row, unlike[0], text, ink))
    return found


def worth_of_line(one, other):
    return len(writings(0, one, other))
