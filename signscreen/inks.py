"""Inks: whole numbers from 0 to 511 that hold a fore hue, a back hue and three marks."""

from signscreen.errors import BadInk

LAST_INK = 511
ALL_MARKS = 448
BITS_BY_MARK = {0: 64, 1: 128, 2: 256}
BITS_BY_WORD = {"bold": 64, "under": 128, "turned": 256}
# What one step of a hue adds to the ink that has it.
STEPS_BY_WORD = {"fore": 1, "back": 8}
HUE_FIGURES = ("0", "1", "2", "3", "4", "5", "6", "7")


def is_whole(thing, least, most):
    # Python counts True and False among the whole numbers, the document does not.
    return isinstance(thing, int) and not isinstance(thing, bool) and least <= thing <= most


def is_ink(thing):
    return is_whole(thing, 0, LAST_INK)


def fore_of(ink):
    return ink & 7


def back_of(ink):
    return (ink >> 3) & 7


def marks_of(ink):
    return (ink >> 6) & 7


def ink_of(fore, back, marks=0):
    return fore + 8 * back + 64 * marks


def with_fore(ink, hue):
    return ink_of(hue, back_of(ink), marks_of(ink))


def with_back(ink, hue):
    return ink_of(fore_of(ink), hue, marks_of(ink))


def with_mark(ink, mark):
    return ink | BITS_BY_MARK.get(mark, 0)


def without_mark(ink, mark):
    return ink & ~BITS_BY_MARK.get(mark, 0)


def turned_marks(ink):
    return ink ^ ALL_MARKS


def ink_text(ink):
    words = [word for word, bit in BITS_BY_WORD.items() if ink & bit]
    for word, hue in (("fore", fore_of(ink)), ("back", back_of(ink))):
        if hue != 0:
            words.append(f"{word} {hue}")
    return " ".join(words) if words else "plain"


def likely_ink(words):
    # Words that mean nothing here are passed over: the caller finds them by telling the text anew.
    ink = 0
    ahead = ""
    for word in words:
        ink = ink | BITS_BY_WORD.get(word, 0)
        if word in HUE_FIGURES:
            ink = ink | HUE_FIGURES.index(word) * STEPS_BY_WORD.get(ahead, 0)
        ahead = word
    return ink


def ink_by_text(text):
    if not isinstance(text, str):
        raise BadInk("an ink's text is a text")
    ink = likely_ink(text.split(" "))
    # An ink has one text alone, so whatever is not told alike is no ink's text.
    if ink_text(ink) != text:
        raise BadInk("that is no ink's text")
    return ink
