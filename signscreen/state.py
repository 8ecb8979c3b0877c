"""What a screen is in: its picture, cursor, ink, modes, window, tab stops and what it keeps."""

from signscreen.cells import blank_picture

TAB_STEP = 4


class State:
    def __init__(self, wide, high):
        # First of all, as this refuses what is no size.
        self.picture = blank_picture(wide, high)
        self.wide = wide
        self.high = high
        self.begin()

    def begin(self):
        self.row = 0
        self.column = 0
        self.late = False
        self.ink = 0
        self.wrap = True
        self.putting = False
        self.home = False
        self.top = 0
        self.bottom = self.high - 1
        self.left = 0
        self.right = self.wide - 1
        self.stops = first_stops(self.wide)
        self.kept = []
        self.last = None


def first_stops(wide):
    return dict([(column, True) for column in range(TAB_STEP, wide, TAB_STEP)])


def edges(state):
    top = state.top if state.row >= state.top else 0
    bottom = state.bottom if state.row <= state.bottom else state.high - 1
    left = state.left if state.column >= state.left else 0
    right = state.right if state.column <= state.right else state.wide - 1
    return (top, bottom, left, right)


def at_least_one(many):
    return 1 if many is None else max(1, many)


def blank_of(state):
    return (" ", state.ink)
