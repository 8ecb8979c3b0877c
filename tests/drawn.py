"""Texts, pictures and pieces that are drawn from a source of chance that the test hands in."""

from tests.states import SIGNS

DEED_LETTERS = "udlrhgyYtTUmMcofpiksxewRDvzZq"
LETTERS = "abcdefghijklmnopqrstuvwxyzABCDEFGHIJKLMNOPQRSTUVWXYZ"
# Wiping all, and beginning anew, often would leave little to look at.
RARE_LETTERS = "Zw"
SMALL = ("", "", "0", "1", "1", "2", "2", "3", "3", "4", "5", "6", "7")
GREAT = ("8", "9", "10", "11", "12", "13", "17", "18", "19", "20", "23", "24", "25", "27", "28", "00", "007", "012")
GREATEST = ("99", "500", "999")
WRONG = ("1000", "0001", "12345", "1;2;3;4;5;6;7", ";;;;;;", "3;0000")
BROKEN = ("~3 ", "~;~", "~12~~", "~3\n", "~4;\t", "~;;!", "~3-", "~~", "~~~~", "~~~2~")


def drawn_number(chance):
    odds = chance.random()
    if odds < 0.75:
        return chance.choice(SMALL)
    return chance.choice(GREAT if odds < 0.98 else GREATEST)


def drawn_body(chance):
    if chance.random() < 0.02:
        return chance.choice(WRONG)
    return ";".join(drawn_number(chance) for turn in range(chance.choice((1, 1, 1, 2, 2, 2, 3, 4, 6))))


def drawn_letter(chance):
    letter = chance.choice(LETTERS if chance.random() < 0.1 else DEED_LETTERS)
    if letter in RARE_LETTERS and chance.random() < 0.6:
        return "c"
    return letter


def drawn_token(chance):
    odds = chance.random()
    if odds < 0.35:
        return "".join(chance.choices(SIGNS[:-1] + [" "] * 4, k=chance.randint(1, 6)))
    if odds < 0.42:
        return "\n"
    if odds < 0.47:
        return "\t"
    if odds < 0.5:
        return chance.choice(BROKEN)
    return "~" + drawn_body(chance) + drawn_letter(chance)


def drawn_text(chance, many):
    return "".join(drawn_token(chance) for turn in range(many))


def drawn_pieces(chance, text):
    """The text cut anywhere; pieces of no signs are among them."""
    most = chance.choice((1, 2, 5, 40))
    pieces = []
    while text:
        size = chance.randint(0, most)
        pieces.append(text[:size])
        text = text[size:]
    return pieces + [""]


def drawn_ink(chance, inks=512):
    return chance.randrange(inks)


def drawn_picture(chance, wide, high, signs="ab ", inks=(0, 0, 64, 3)):
    return [[(chance.choice(signs), chance.choice(inks)) for column in range(wide)] for row in range(high)]
