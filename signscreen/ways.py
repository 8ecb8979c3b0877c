"""Ways from one picture to another: cuts, then puts, then writings; and a way of the fewest deeds."""

from signscreen.cells import blank_row, copied, need_one_size
from signscreen.lines import alike_spans, worth_of_line, writings

# What is done with a row from the top on: it is kept, it is cut, or a blank one comes.
KEEP = "k"
CUT = "c"
PUT = "p"


def blank_rows(wide, many):
    return [blank_row(wide) for row in range(many)]


def with_cut(rows, row, many):
    left = rows[:row] + rows[row + many :]
    return left + blank_rows(len(rows[0]), len(rows) - len(left))


def with_put(rows, row, many):
    blanks = blank_rows(len(rows[0]), many)
    return (rows[:row] + blanks + rows[row:])[: len(rows)]


def with_writing(cells, column, text, ink):
    written = [(sign, ink) for sign in text]
    return (cells[:column] + written + cells[column + len(text) :])[: len(cells)]


def way_done(picture, way):
    rows = copied(picture)
    for deed in way:
        if deed[0] == "cut":
            rows = with_cut(rows, deed[1], deed[2])
        elif deed[0] == "put":
            rows = with_put(rows, deed[1], deed[2])
        else:
            rows[deed[1]] = with_writing(rows[deed[1]], deed[2], deed[3], deed[4])
    return rows


def kept_ones(ahead, worth):
    return [(least + worth, steps + KEEP) for least, steps in ahead]


def cut_ones(ahead):
    # Between two kept rows cuts come ahead of puts: the other order leads to the same.
    found = []
    for least, steps in ahead:
        if not steps.endswith(PUT):
            begun = steps.endswith(CUT)
            found.append((least if begun else least + 1, steps + CUT))
    return found


def put_ones(ahead, worth, all_taken):
    # Below the last row of the one blanks come by themselves.
    found = []
    for least, steps in ahead:
        begun = all_taken or steps.endswith(PUT)
        found.append((least + worth if begun else least + worth + 1, steps + PUT))
    return found


def least_by_step(arrived):
    found = []
    for step in (KEEP, CUT, PUT):
        alike = [one for one in arrived if one[1].endswith(step)]
        if alike:
            found.append(min(alike))
    return found


def arrivals(found, one, other, taken, filled):
    arrived = []
    if taken > 0:
        arrived.extend(cut_ones(found[(taken - 1, filled)]))
    if filled > 0:
        worth = worth_of_line(blank_row(len(one[0])), other[filled - 1])
        arrived.extend(put_ones(found[(taken, filled - 1)], worth, taken == len(one)))
    if taken > 0 and filled > 0:
        worth = worth_of_line(one[taken - 1], other[filled - 1])
        arrived.extend(kept_ones(found[(taken - 1, filled - 1)], worth))
    return arrived


def least_steps(one, other):
    # By how many rows of the one are taken and how many of the other are filled; for each last step
    # the least way to there, as the worth of the next step hangs on it.
    high = len(one)
    found = {(0, 0): [(0, "")]}
    for taken in range(high + 1):
        for filled in range(high + 1):
            if taken + filled > 0:
                found[(taken, filled)] = least_by_step(arrivals(found, one, other, taken, filled))
    # Rows of the one that are not taken then stand beyond the bottom and are lost.
    return min([min(found[(taken, high)]) for taken in range(high + 1)])[1]


def moves_of(steps, high):
    cuts = []
    puts = []
    for first, behind in alike_spans(steps):
        ahead = steps[:first]
        kept = ahead.count(KEEP)
        if steps[first] == CUT:
            cuts.append(("cut", kept, behind - first))
        elif steps[first] == PUT and kept + ahead.count(CUT) < high:
            puts.append(("put", kept + ahead.count(PUT), behind - first))
    return cuts + puts


def least_way(one, other):
    need_one_size(one, other)
    way = moves_of(least_steps(one, other), len(one))
    stood = way_done(one, way)
    for row in range(len(other)):
        way.extend(writings(row, stood[row], other[row]))
    return way


def least_worth(one, other):
    return len(least_way(one, other))
