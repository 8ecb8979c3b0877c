"""Papers: a picture as a text, its rows of signs and behind these its rows of stretches."""

from signscreen.cells import WIDEST, is_picture, need_picture, text_of
from signscreen.errors import BadInk, BadPaper
from signscreen.inks import ink_by_text, ink_text
from signscreen.lines import stretches


def stretch_text(many, ink):
    words = ink_text(ink)
    return f"{many}:{words}"


def inks_text(row):
    return ", ".join([stretch_text(behind - first, ink) for first, behind, ink in stretches(row)])


def paper_of(picture):
    need_picture(picture)
    rows = [text_of(row) for row in picture] + [inks_text(row) for row in picture]
    return "".join([row + "\n" for row in rows])


def many_by_text(text):
    # No number is made of the text itself, as it may have thousands of figures.
    for many in range(1, WIDEST + 1):
        if str(many) == text:
            return many
    return 0


def inks_by_text(text):
    inks = []
    for part in text.split(", "):
        halves = part.partition(":")
        try:
            ink = ink_by_text(halves[2])
        except BadInk:
            raise BadPaper("a stretch has no ink's text") from None
        inks.extend([ink] * many_by_text(halves[0]))
    return inks


def likely_row(signs, inks):
    return list(zip(signs, inks))


def likely_picture(paper):
    # The last one is what stands behind the last line end.
    rows = paper.split("\n")[:-1]
    high = len(rows) // 2
    return [likely_row(rows[row], inks_by_text(rows[high + row])) for row in range(high)]


def picture_of(paper):
    if not isinstance(paper, str):
        raise BadPaper("a paper is a text")
    picture = likely_picture(paper)
    # A picture has one paper alone, so whatever is not told alike is no picture's paper.
    if not is_picture(picture) or paper_of(picture) != paper:
        raise BadPaper("that is no picture's paper")
    return picture
