"""papers.py: promise [23], and what [1] says of it."""

import copy
import itertools
import random
import unittest

from signscreen.cells import blank_picture, is_picture
from signscreen.errors import BadPaper, BadPicture, ScreenError
from signscreen.papers import paper_of, picture_of
from tests.drawn import drawn_picture
from tests.states import SIGNS, full_picture
from tests.test_cells import NO_PICTURES, OTHER_KINDS


def own_ink_texts():
    """The inks by their texts, by the document's words."""
    marks = [(64, "bold"), (128, "under"), (256, "turned")]
    found = {}
    for bold, under, turned in itertools.product((0, 1), repeat=3):
        for fore, back in itertools.product(range(8), repeat=2):
            words = [word for has, (bit, word) in zip((bold, under, turned), marks) if has]
            words += [f"fore {fore}"] if fore else []
            words += [f"back {back}"] if back else []
            found[" ".join(words) or "plain"] = fore + 8 * back + 64 * bold + 128 * under + 256 * turned
    return found


INKS = own_ink_texts()
TEXTS = {ink: text for text, ink in INKS.items()}
MANY = {str(many): many for many in range(1, 25)}


def own_picture(paper):
    """The picture of a paper, None where it is none's, by the document's words."""
    if not isinstance(paper, str) or not paper.endswith("\n"):
        return None
    rows = paper.split("\n")[:-1]
    if len(rows) % 2 or not 2 <= len(rows) <= 24:
        return None
    half = len(rows) // 2
    picture = [own_row(rows[row], rows[half + row]) for row in range(half)]
    if None in picture or len({len(row) for row in picture}) > 1:
        return None
    return picture


def own_row(signs, stretches):
    inks = []
    ahead = None
    for stretch in stretches.split(", "):
        many, colon, text = stretch.partition(":")
        if many not in MANY or not colon or text not in INKS or text == ahead:
            return None
        ahead = text
        inks += [INKS[text]] * MANY[many]
    if len(inks) != len(signs) or len(signs) > 24 or set(signs) - set(SIGNS) - {" "}:
        return None
    return list(zip(signs, inks))


def row_texts(row):
    runs = [(ink, len(list(run))) for ink, run in itertools.groupby(ink for sign, ink in row)]
    return "".join(sign for sign, ink in row), ", ".join(f"{many}:{TEXTS[ink]}" for ink, many in runs)


def own_paper(picture):
    texts = [row_texts(row) for row in picture]
    return "".join(signs + "\n" for signs, stretches in texts) + "".join(stretches + "\n" for signs, stretches in texts)


def some_pictures():
    pictures = [[[("a", 64), ("b", 64), (" ", 0)]], [[("a", 0)]], [[(" ", 511)]], full_picture(24, 12)]
    pictures += [full_picture(1, 12), full_picture(24, 1), blank_picture(24, 12), blank_picture(24, 12, 65)]
    # Rows of signs that look like stretches.
    pictures += [[[(sign, 3) for sign in text]] for text in ("7:plain", "1:plain, 1:bold", "2:bold, 1:plain", ": , ")]
    for seed in range(60):
        chance = random.Random(seed)
        inks = chance.choice(((0,), (0, 64), (0, 0, 0, 9), range(512)))
        signs = chance.choice(("a ", SIGNS, ":, 12", "plain:1"))
        pictures.append(drawn_picture(chance, chance.randint(1, 24), chance.randint(1, 12), signs, inks))
    return pictures


class PaperOfTest(unittest.TestCase):
    def check_paper(self, picture, paper):
        kept = copy.deepcopy(picture)
        told = paper_of(picture)
        self.assertEqual(told, paper)
        self.assertIs(type(told), str)
        self.assertEqual(picture, kept)

    def test_the_documents_instance(self):
        self.check_paper([[("a", 64), ("b", 64), (" ", 0)]], "ab \n2:bold, 1:plain\n")

    def test_one_cell(self):
        self.check_paper([[("a", 0)]], "a\n1:plain\n")
        self.check_paper([[(" ", 511)]], " \n1:bold under turned fore 7 back 7\n")
        for text, ink in INKS.items():
            self.check_paper([[("x", ink)]], f"x\n1:{text}\n")

    def test_the_greatest(self):
        self.check_paper(blank_picture(24, 12), (" " * 24 + "\n") * 12 + "24:plain\n" * 12)
        picture = [[("a", 0)] * 12 + [("b", 1)] * 12 for row in range(12)]
        self.check_paper(picture, "aaaaaaaaaaaabbbbbbbbbbbb\n" * 12 + "12:plain, 12:fore 1\n" * 12)
        self.check_paper(full_picture(24, 12), own_paper(full_picture(24, 12)))

    def test_several_rows(self):
        picture = [[("a", 0), ("b", 0)], [("c", 9), ("d", 64)], [("e", 0), (" ", 1)]]
        self.check_paper(picture, "ab\ncd\ne \n2:plain\n1:fore 1 back 1, 1:bold\n1:plain, 1:fore 1\n")

    def test_signs_of_all_sorts(self):
        for sign in SIGNS + [" "]:
            self.check_paper([[(sign, 0)]], sign + "\n1:plain\n")

    def test_stretches_are_as_long_as_can_be(self):
        self.check_paper([[("a", 1), ("b", 1), ("c", 0), ("d", 1)]], "abcd\n2:fore 1, 1:plain, 1:fore 1\n")
        picture = [[("a", column % 2) for column in range(24)]]
        self.check_paper(picture, "a" * 24 + "\n" + ", ".join(["1:plain, 1:fore 1"] * 12) + "\n")
        # A stretch ends with its row.
        self.check_paper([[("a", 5)], [("b", 5)]], "a\nb\n1:fore 5\n1:fore 5\n")

    def test_pictures_of_all_sorts(self):
        for picture in some_pictures():
            self.check_paper(picture, own_paper(picture))

    def test_what_is_no_picture(self):
        for thing in NO_PICTURES + (INKS, lambda: 1, "a\n1:plain\n"):
            self.assertRaises(BadPicture, paper_of, thing)
        self.assertRaises(ScreenError, paper_of, [])


class PictureOfTest(unittest.TestCase):
    def check_paper(self, paper, picture):
        told = picture_of(paper)
        self.assertEqual(told, picture)
        self.assertTrue(is_picture(told))
        self.assertEqual(len({id(row) for row in told}), len(told))
        told[0][0] = ("!", 9)
        told.append([])
        self.assertEqual(picture_of(paper), picture)

    def check_either(self, paper):
        """It is read where it is some picture's paper, else refused."""
        picture = own_picture(paper)
        if picture is None:
            self.assertRaises(BadPaper, picture_of, paper)
            return 0
        self.assertEqual(picture_of(paper), picture)
        return 1

    def check_refused(self, papers):
        for paper in papers:
            self.assertRaises(BadPaper, picture_of, paper)

    def test_each_paper_read_again_is_the_picture(self):
        for picture in some_pictures():
            self.check_paper(paper_of(picture), picture)

    def test_by_hand(self):
        self.check_paper("ab \n2:bold, 1:plain\n", [[("a", 64), ("b", 64), (" ", 0)]])
        self.check_paper("a\nb\n1:fore 5\n1:plain\n", [[("a", 5)], [("b", 0)]])
        for text, ink in INKS.items():
            self.check_paper(f"~\n1:{text}\n", [[("~", ink)]])

    def test_things_that_are_no_text(self):
        things = [thing for thing in OTHER_KINDS if not isinstance(thing, str)]
        self.check_refused(things + [[[("a", 0)]], ["a\n1:plain\n"], ("a\n", "1:plain\n"), b"a\n1:plain\n"])

    def test_texts_that_are_none(self):
        self.check_refused(["", "\n", "\n\n", "a", "a\n", "1:plain\n", "a1:plain\n", "a\n1:plain", "\na\n1:plain\n"])
        self.check_refused(["a\n1:plain\n\n", "a\n\n1:plain\n", "a\r\n1:plain\r\n", "a\n1:plain\n ", "1:plain\na\n"])

    def test_rows_of_signs_or_of_stretches_alone(self):
        for picture in some_pictures():
            rows = paper_of(picture).splitlines(keepends=True)
            half = len(rows) // 2
            self.check_either("".join(rows[:half]))
            self.check_either("".join(rows[half:]))
        self.check_refused(["ab \n", "ab\ncd\n", "2:plain\n2:plain\n", "1:plain\n"])
        self.check_refused(["a\nb\n1:plain\n", "a\n1:plain\n" * 2])

    def test_stretches(self):
        wrong = (
            "1:plain, 1:plain",
            "02:plain",
            "002:plain",
            "0:bold, 2:plain",
            "2:plain, 0:bold",
            "2:plain, ",
            ", 2:plain",
            "2:plain,",
            "2:plain ",
            " 2:plain",
            "2: plain",
            "2 :plain",
            "2plain",
            "2",
            ":plain",
            "plain",
            "",
            "2:",
            "2::plain",
            "2:plain:",
            "3:plain",
            "1:plain",
            "+2:plain",
            "-2:plain",
            "2.0:plain",
            "2_:plain",
            "\u0662:plain",
            "\uff12:plain",
            "\u00b2:plain",
            "1:plain,1:bold",
            "1:plain,  1:bold",
            "1:plain; 1:bold",
            "1:plain 1:bold",
            "2:Plain",
            "2:fore 0",
            "2:back 8",
            "2:fore 9",
            "2:fore 01",
            "2:fore 1 plain",
            "2:back 1 fore 1",
            "2:under bold",
            "2:bold bold",
            "2:bold  under",
            "2:bold,under",
            "2:0",
            "2:64",
            "99999999999:plain",
            "9" * 5000 + ":plain",
            "2:plain" * 2,
        )
        for stretches in wrong:
            self.check_refused(["ab\n" + stretches + "\n"])
        self.check_paper("ab\n1:plain, 1:bold\n", [[("a", 0), ("b", 64)]])

    def test_signs_that_no_cell_has(self):
        for sign in ("%", "\t", "\r", "\x00", "\x7f", "\u00e4", "\u2028", "\x0b", "\x1c", "\U0001f600", "\ud800"):
            self.check_refused([sign + "\n1:plain\n", "a" + sign + "\n2:plain\n", f"a\n1:{sign}plain\n"])

    def test_rows_of_unlike_lengths(self):
        self.check_refused(["ab\nc\n2:plain\n1:plain\n", "a\nbc\n1:plain\n2:plain\n", "ab\nc\n2:plain\n2:plain\n"])
        self.check_refused(["ab\nc\n1:plain\n2:plain\n", "a\n\n1:plain\n\n"])

    def test_too_high_and_too_wide(self):
        self.check_paper("a\n" * 12 + "1:plain\n" * 12, [[("a", 0)]] * 12)
        self.check_refused(["a\n" * 13 + "1:plain\n" * 13, "a\n" * 24 + "1:plain\n" * 24])
        self.check_paper("a" * 24 + "\n24:plain\n", [[("a", 0)] * 24])
        self.check_refused(["a" * 25 + "\n25:plain\n", "a" * 25 + "\n24:plain, 1:bold\n", "a" * 25 + "\n24:plain\n"])

    def changed_texts(self, paper):
        """A sign left out, told twice, exchanged or put in, at each place."""
        for place in range(len(paper)):
            ahead, behind = paper[:place], paper[place + 1 :]
            yield ahead + behind
            yield ahead + paper[place] * 2 + behind
            yield ahead + behind[:1] + paper[place] + behind[1:]
            for sign in ("\n", " ", "a", ",", ":", "1", "0", "\t", "%"):
                yield ahead + sign + behind
                yield ahead + sign + paper[place:]
            yield ahead

    def changed_rows(self, paper):
        """A row left out, told twice or exchanged with another."""
        rows = paper.splitlines(keepends=True)
        for place in range(len(rows)):
            yield "".join(rows[:place] + rows[place + 1 :])
            yield "".join(rows[:place] + [rows[place]] + rows[place:])
            for other in range(place):
                changed = list(rows)
                changed[place], changed[other] = rows[other], rows[place]
                yield "".join(changed)

    def test_papers_that_were_changed(self):
        papers = [paper_of(picture) for picture in some_pictures()[:4:3] + some_pictures()[8:30:3]]
        papers += ["ab \n2:bold, 1:plain\n", "a\nb\n1:fore 5\n1:plain\n"]
        papers += ["7:plain\n7:bold\n", "ab\nab\n2:plain\n2:bold\n"]
        read = 0
        for paper in papers:
            if len(paper) < 400:
                read += sum(self.check_either(text) for text in self.changed_texts(paper))
            read += sum(self.check_either(text) for text in self.changed_rows(paper))
        # Both were looked at: such as are papers still, and such as are none.
        self.assertGreater(read, 100)

    def test_what_is_refused_is_a_screen_error(self):
        self.assertRaises(ScreenError, picture_of, None)


if __name__ == "__main__":
    unittest.main()
