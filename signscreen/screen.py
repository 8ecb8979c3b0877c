"""A screen: it is fed texts, obeys them, and tells what it shows."""

from signscreen.cells import copied, text_of
from signscreen.deeds import deed_of
from signscreen.reader import Reader
from signscreen.state import State


class Screen:
    def __init__(self, wide, high):
        self.state = State(wide, high)
        self.reader = Reader()

    def feed(self, text):
        answers = []
        for read in self.reader.read(text):
            answers.extend(deed_of(read).do(self.state))
        return answers

    def told_picture(self):
        return copied(self.state.picture)

    def cursor(self):
        return (self.state.row, self.state.column)

    def is_late(self):
        return self.state.late

    def told_ink(self):
        return self.state.ink

    def modes(self):
        return (self.state.wrap, self.state.putting, self.state.home)

    def window(self):
        return (self.state.top, self.state.bottom, self.state.left, self.state.right)

    def told_stops(self):
        return sorted(self.state.stops)

    def many_kept(self):
        return len(self.state.kept)

    def open_row(self):
        return self.reader.open_row()

    def lines(self):
        return [text_of(row) for row in self.state.picture]
