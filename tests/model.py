"""A plain going by the document's words, of the tests' own: it draws nothing from the package.

Slow and step by step: each number of times is done one by one, the picture is a dict from places to cells.
"""

import re

ROW = re.compile(r"~([0-9;]*)")
MARKS = ("bold", "under", "turned")


def numbers_of(body):
    """The numbers of a row, or None where it does nothing."""
    parts = body.split(";")
    if len(parts) > 6 or max(map(len, parts)) > 3:
        return None
    return [int(part) if part else None for part in parts]


class Ink:
    """An ink by its parts."""

    def __init__(self, fore=0, back=0, marks=()):
        self.fore, self.back, self.marks = fore, back, frozenset(marks)

    def number(self):
        return self.fore + 8 * self.back + sum(64 * 2**mark for mark in self.marks)

    def text(self):
        words = [MARKS[mark] for mark in sorted(self.marks)]
        words += [f"fore {self.fore}"] if self.fore else []
        words += [f"back {self.back}"] if self.back else []
        return " ".join(words) or "plain"

    def changed(self, number):
        if not number:
            return Ink()
        if number in (1, 2, 3):
            return Ink(self.fore, self.back, self.marks | {number - 1})
        if number in (4, 5, 6):
            return Ink(self.fore, self.back, self.marks - {number - 4})
        if number == 7:
            return Ink(self.fore, self.back, {0, 1, 2} - self.marks)
        if number in range(10, 18):
            return Ink(number - 10, self.back, self.marks)
        if number in range(20, 28):
            return Ink(self.fore, number - 20, self.marks)
        return self


class Model:
    def __init__(self, wide, high):
        self.wide, self.high = wide, high
        self.unread = ""
        self.begin()

    def begin(self):
        self.cells = {(row, column): (" ", 0) for row in range(self.high) for column in range(self.wide)}
        self.row = self.column = 0
        self.late = False
        self.ink = Ink()
        self.modes = {1: True, 2: False, 3: False}
        self.rows = (0, self.high - 1)
        self.columns = (0, self.wide - 1)
        self.stops = {column for column in range(1, self.wide) if column % 4 == 0}
        self.kept = []
        self.last = None

    def feed(self, text):
        """The whole of what is not read yet is read anew."""
        self.answers = []
        left = self.unread + text
        self.unread = ""
        while left:
            left = self.read_one(left)
        return self.answers

    def read_one(self, left):
        if left[0] == "\n":
            self.line_end()
            return left[1:]
        if left[0] == "\t":
            self.late = False
            self.tab()
            return left[1:]
        if left[0] != "~":
            self.write(left[0])
            return left[1:]
        found = ROW.match(left)
        behind = left[found.end() :]
        if not behind:
            self.unread = left
            return ""
        if re.match("[a-zA-Z]", behind):
            numbers = numbers_of(found.group(1))
            if numbers is not None:
                self.obey(behind[0], numbers)
            return behind[1:]
        if behind[0] == "~" and not found.group(1):
            self.write("~")
            return behind[1:]
        return behind

    def obey(self, letter, numbers):
        deed = getattr(self, f"deed_{letter}", None)
        if deed is None:
            return
        if letter in "udlrhgyYiksxewRD":
            self.late = False
        if letter in "cofq":
            deed(numbers)
        else:
            # As many as the deed has, the others are passed over.
            deed(*numbers[: deed.__code__.co_argcount - 1])

    # Edges and blanks.

    def top_edge(self):
        return 0 if self.row < self.rows[0] else self.rows[0]

    def bottom_edge(self):
        return self.high - 1 if self.row > self.rows[1] else self.rows[1]

    def left_edge(self):
        return 0 if self.column < self.columns[0] else self.columns[0]

    def right_edge(self):
        return self.wide - 1 if self.column > self.columns[1] else self.columns[1]

    def blank(self):
        return (" ", self.ink.number())

    # Going.

    def deed_u(self, many=None):
        for turn in range(many or 1):
            if self.row != self.top_edge():
                self.row -= 1

    def deed_d(self, many=None):
        for turn in range(many or 1):
            if self.row != self.bottom_edge():
                self.row += 1

    def deed_l(self, many=None):
        for turn in range(many or 1):
            if self.column != self.left_edge():
                self.column -= 1

    def deed_r(self, many=None):
        for turn in range(many or 1):
            if self.column != self.right_edge():
                self.column += 1

    def deed_h(self):
        self.column = self.left_edge()

    def deed_g(self, row=None, column=None):
        rows = list(range(self.high))
        columns = list(range(self.wide))
        if self.modes[3]:
            rows = rows[self.rows[0] : self.rows[1] + 1]
            columns = columns[self.columns[0] : self.columns[1] + 1]
        self.row = rows[(row or 1) - 1] if (row or 1) <= len(rows) else rows[-1]
        self.column = columns[(column or 1) - 1] if (column or 1) <= len(columns) else columns[-1]
        self.late = False

    def tab(self):
        edge = self.right_edge()
        while self.column != edge:
            self.column += 1
            if self.column in self.stops:
                break

    def deed_y(self, many=None):
        for turn in range(many or 1):
            self.tab()

    def deed_Y(self, many=None):
        for turn in range(many or 1):
            edge = self.left_edge()
            while self.column != edge:
                self.column -= 1
                if self.column in self.stops:
                    break

    def deed_t(self):
        self.stops.add(self.column)

    def deed_T(self):
        self.stops.discard(self.column)

    def deed_U(self):
        self.stops = set()

    # Setting.

    def span(self, first, last, size):
        first, last = first or 1, last or size
        last = size if last > size else last
        return None if first > last else (first - 1, last - 1)

    def deed_m(self, first=None, last=None):
        span = self.span(first, last, self.high)
        if span:
            self.rows = span
            self.deed_g()

    def deed_M(self, first=None, last=None):
        span = self.span(first, last, self.wide)
        if span:
            self.columns = span
            self.deed_g()

    def deed_c(self, numbers):
        for number in numbers:
            self.ink = self.ink.changed(number)

    def deed_o(self, numbers):
        self.turn(numbers, True)

    def deed_f(self, numbers):
        self.turn(numbers, False)

    def turn(self, numbers, on):
        for number in numbers:
            if number in self.modes:
                self.modes[number] = on
        if 3 in numbers:
            self.deed_g()

    # Writing.

    def line_end(self):
        self.late = False
        self.column = self.left_edge()
        if self.row == self.rows[1]:
            self.up_by_one(self.rows[0])
        elif self.row != self.high - 1:
            self.row += 1

    def write(self, sign):
        if self.late:
            self.late = False
            if self.modes[1]:
                self.line_end()
        if self.modes[2]:
            self.one_to_the_right()
        self.cells[self.row, self.column] = (sign, self.ink.number())
        self.last = sign
        if self.column == self.right_edge():
            self.late = self.modes[1]
        else:
            self.column += 1

    def deed_p(self, many=None):
        for turn in range(many or 1):
            if self.last is not None:
                self.write(self.last)

    # Rolling.

    def up_by_one(self, first):
        for column in range(self.columns[0], self.columns[1] + 1):
            for row in range(first, self.rows[1]):
                self.cells[row, column] = self.cells[row + 1, column]
            self.cells[self.rows[1], column] = self.blank()

    def down_by_one(self, first):
        for column in range(self.columns[0], self.columns[1] + 1):
            for row in range(self.rows[1], first, -1):
                self.cells[row, column] = self.cells[row - 1, column]
            self.cells[first, column] = self.blank()

    def deed_R(self, many=None):
        for turn in range(many or 1):
            self.up_by_one(self.rows[0])

    def deed_D(self, many=None):
        for turn in range(many or 1):
            self.down_by_one(self.rows[0])

    def deed_i(self, many=None):
        for turn in range(many or 1):
            if self.rows[0] <= self.row <= self.rows[1]:
                self.down_by_one(self.row)

    def deed_k(self, many=None):
        for turn in range(many or 1):
            if self.rows[0] <= self.row <= self.rows[1]:
                self.up_by_one(self.row)

    # Cells of a row.

    def one_to_the_right(self):
        for column in range(self.right_edge(), self.column, -1):
            self.cells[self.row, column] = self.cells[self.row, column - 1]
        self.cells[self.row, self.column] = self.blank()

    def one_to_the_left(self):
        for column in range(self.column, self.right_edge()):
            self.cells[self.row, column] = self.cells[self.row, column + 1]
        self.cells[self.row, self.right_edge()] = self.blank()

    def deed_s(self, many=None):
        for turn in range(many or 1):
            self.one_to_the_right()

    def deed_x(self, many=None):
        for turn in range(many or 1):
            self.one_to_the_left()

    def deed_e(self, many=None):
        for step in range(many or 1):
            if self.column + step < self.wide:
                self.cells[self.row, self.column + step] = self.blank()

    def deed_w(self, way=None):
        here = (self.row, self.column)
        for place in self.cells:
            in_row = place[0] == self.row
            wiped = {
                0: in_row and place >= here,
                1: in_row and place <= here,
                2: in_row,
                3: place >= here,
                4: place <= here,
                5: True,
            }
            if wiped.get(way or 0, False):
                self.cells[place] = self.blank()

    # Keeping and asking.

    def deed_v(self):
        self.kept.append((self.row, self.column, self.late, self.ink, dict(self.modes)))
        self.kept = self.kept[-8:]

    def deed_z(self):
        if self.kept:
            self.row, self.column, self.late, self.ink, self.modes = self.kept.pop()

    def deed_Z(self):
        self.begin()

    def deed_q(self, numbers):
        for number in numbers:
            if number in (None, 0, 1):
                above = self.rows[0] if self.modes[3] else 0
                ahead = self.columns[0] if self.modes[3] else 0
                self.answers.append(str(self.row - above + 1) + ";" + str(self.column - ahead + 1))
            if number == 2:
                self.answers.append(str(self.wide) + "x" + str(self.high))
            if number == 3:
                self.answers.append(self.ink.text())

    # What a screen tells, by the names of its functions.

    def told(self):
        rows = [[self.cells[row, column] for column in range(self.wide)] for row in range(self.high)]
        return {
            "told_picture": rows,
            "cursor": (self.row, self.column),
            "is_late": self.late,
            "told_ink": self.ink.number(),
            "modes": (self.modes[1], self.modes[2], self.modes[3]),
            "window": self.rows + self.columns,
            "told_stops": sorted(self.stops),
            "many_kept": len(self.kept),
            "open_row": self.unread,
            "lines": ["".join(sign for sign, ink in row) for row in rows],
        }


def told_by(screen):
    """All that a screen tells, by the names of its functions."""
    return {name: getattr(screen, name)() for name in Model(1, 1).told()}
