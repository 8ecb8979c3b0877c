"""Ways of the told sort, tried one by one by the document's words: it draws nothing from the package."""

import functools


def fewest_writings(one, other):
    """The fewest writings, of all that make one row the other: one ink each, no cell twice."""

    @functools.cache
    def fewest(column):
        if column == len(other):
            return 0
        choices = []
        if one[column] == other[column]:
            choices.append(fewest(column + 1))
        behind = column
        while behind < len(other) and other[behind][1] == other[column][1]:
            behind += 1
            choices.append(1 + fewest(behind))
        return min(choices)

    return fewest(0)


def rows_cut(rows, row, many):
    return rows[:row] + rows[row + many :] + (None,) * many


def rows_put(rows, row, many):
    return (rows[:row] + (None,) * many + rows[row:])[: len(rows)]


@functools.cache
def all_orders(high):
    """Each order of rows that cuts and puts lead to, None for a plain blank one, with the fewest that do so."""
    begin = (tuple(range(high)), "cut", 0)
    met = {begin}
    newest = [begin]
    fewest = {begin[0]: 0}
    deeds = 0
    while newest:
        deeds += 1
        found = []
        for rows, kind, least_row in newest:
            for state in moved_on(rows, kind, least_row, high):
                if state not in met:
                    met.add(state)
                    found.append(state)
                    fewest.setdefault(state[0], deeds)
        newest = found
    return fewest


def moved_on(rows, kind, least_row, high):
    """What one deed more leads to: the rows, whether the last one was a cut or a put, the least row of the next."""
    found = []
    if kind == "cut":
        for row in range(least_row, high):
            for many in range(1, high - row + 1):
                found.append((rows_cut(rows, row, many), "cut", row))
    for row in range(least_row if kind == "put" else 0, high):
        for many in range(1, high - row + 1):
            found.append((rows_put(rows, row, many), "put", row + 1))
    return found


def fewest_deeds(one, other):
    """The least worth of all ways, over all orders of rows."""
    wide = len(one[0])
    lines = dict(enumerate(one))
    lines[None] = [(" ", 0)] * wide
    worth = {(row, place): fewest_writings(lines[row], other[place]) for row in lines for place in range(len(other))}
    return min(
        moves + sum(worth[row, place] for place, row in enumerate(rows)) for rows, moves in all_orders(len(one)).items()
    )


def fewest_by_pairs(one, other):
    """The same for greater pictures: over all rows of the one that may stand next in a row of the other."""
    high = len(one)
    blank = [(" ", 0)] * len(one[0])
    blanks = [fewest_writings(blank, row) for row in other]

    @functools.cache
    def fewest(row, place):
        """Of all that comes behind a row of the one that stands at that place of the other."""
        rest = 0 if row == high - 1 or place == high - 1 else 1
        choices = [rest + sum(blanks[place + 1 :])]
        for next_row in range(row + 1, high):
            for next_place in range(place + 1, high):
                moves = (next_row > row + 1) + (next_place > place + 1)
                line = fewest_writings(one[next_row], other[next_place])
                between = sum(blanks[place + 1 : next_place])
                choices.append(moves + between + line + fewest(next_row, next_place))
        return min(choices)

    return fewest(-1, -1)


def all_writings(picture, other, written):
    """Each writing that keeps to the other picture: a cell that is written wrongly stays wrong, as none is twice."""
    found = []
    for row, line in enumerate(other):
        for column in range(len(line)):
            for behind in range(column + 1, len(line) + 1):
                places = [(row, place) for place in range(column, behind)]
                inks = {line[place][1] for place in range(column, behind)}
                if len(inks) == 1 and not written.intersection(places):
                    changed = [list(cells) for cells in picture]
                    changed[row][column:behind] = line[column:behind]
                    found.append((changed, written.union(places)))
    return found


def is_there_a_way(one, other, most):
    """Whether some way of at most so many deeds leads there, all of them done one by one, cell by cell."""
    high = len(one)
    blank = [(" ", 0)] * len(one[0])

    def pictured(rows):
        return [list(blank) if row is None else list(one[row]) for row in rows]

    def by_writing(picture, written, left):
        if picture == other:
            return True
        return left > 0 and any(by_writing(*next_one, left - 1) for next_one in all_writings(picture, other, written))

    def by_moving(rows, kind, least_row, left):
        if by_writing(pictured(rows), frozenset(), left):
            return True
        return left > 0 and any(by_moving(*next_one, left - 1) for next_one in moved_on(rows, kind, least_row, high))

    return by_moving(tuple(range(high)), "cut", 0, most)
