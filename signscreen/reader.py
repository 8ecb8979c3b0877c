"""Reading texts, in whatever pieces they come, into signs, tabs, line ends and control rows."""

OPENING = "~"
MOST_NUMBERS = 6
MOST_FIGURES = 3


def is_figure(sign):
    return "0" <= sign <= "9"


def is_letter(sign):
    return "a" <= sign <= "z" or "A" <= sign <= "Z"


def parted(body):
    parts = body.split(";")
    if len(parts) > MOST_NUMBERS or any([len(part) > MOST_FIGURES for part in parts]):
        return None
    return tuple([int(part) if part else None for part in parts])


def sign_alone(sign):
    if sign == "\n":
        return ("line",)
    if sign == "\t":
        return ("tab",)
    return ("sign", sign)


class Reader:
    def __init__(self):
        # A list, as a row may grow sign by sign for long.
        self.begun = []

    def open_row(self):
        return "".join(self.begun)

    def read(self, text):
        found = []
        for sign in text:
            found.extend(self.read_sign(sign))
        return found

    def read_sign(self, sign):
        if self.begun and is_letter(sign):
            return self.end_row(sign)
        if self.begun and (is_figure(sign) or sign == ";"):
            self.begun.append(sign)
            return []
        stood_alone = len(self.begun) == 1
        self.begun = []
        if sign != OPENING or stood_alone:
            return [sign_alone(sign)]
        self.begun.append(sign)
        return []

    def end_row(self, letter):
        numbers = parted(self.open_row()[1:])
        self.begun = []
        return [] if numbers is None else [("row", letter, numbers)]
