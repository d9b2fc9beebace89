"""Point 10.1: rootwebs/texts.py."""

import re
import unittest

from rootwebs.errors import NoText
from rootwebs.texts import web_read, web_shown
from tests.helper import NO_THINGS, full_web, many_webs, nested, path_web, same_kind, small_webs, webs_of

FULL6 = full_web(6)
NUMBER = "(0|[1-9][0-9]{0,19})"
TWENTY = "1" + "0" * 19
PATH = "web 4 3\ntie 0 1\ntie 1 2\ntie 2 3"


def slow_text(web):
    rows = ["web " + str(web[0]) + " " + str(len(web[1]))]
    for a, b in web[1]:
        rows.append("tie " + str(a) + " " + str(b))
    return "\n".join(rows)


def slow_read(text):
    """The web of a text, or the number of the row that is refused, straight from the words."""
    rows = text.split("\n")
    ties = []
    for number, row in enumerate(rows, 1):
        if number == 1:
            found = re.fullmatch(f"web {NUMBER} {NUMBER}", row)
            if found is None or int(found[1]) not in range(1, 7):
                return number
            many, due = int(found[1]), int(found[2])
        else:
            found = re.fullmatch(f"tie {NUMBER} {NUMBER}", row)
            if found is None or number - 1 > due:
                return number
            tie = (int(found[1]), int(found[2]))
            if not tie[0] < tie[1] < many or ties and tie <= ties[-1]:
                return number
            ties.append(tie)
    if len(rows) - 1 < due:
        return len(rows) + 1
    return (many, tuple(ties))


def edits_of_rows(text):
    """Texts with rows left out, put twice, exchanged, put behind, emptied, and with blanks about them."""
    rows = text.split("\n")
    told = []
    for at, row in enumerate(rows):
        ahead, behind = rows[:at], rows[at + 1:]
        told += [ahead + behind, ahead + [row, row] + behind, ahead + ["", row] + behind, ahead + [""] + behind,
                 ahead + behind + [row], [row] + ahead + behind, rows + [row], rows[:at]]
        told += [ahead + [other] + behind for other in (
            " " + row, row + " ", row.replace(" ", "  "), row.replace(" ", "  ", 1), row.replace(" ", ""),
            row.replace(" ", "-"), row.upper(), row.title(), row + " 0", row[:-2], row.replace(" ", " 0"),
            row.replace(" ", " +"), row.replace(" ", " -"), row.replace(" ", "\t"), row + ".", row[::-1],
        )]
        for other in range(at + 1, len(rows)):
            swapped = list(rows)
            swapped[at], swapped[other] = swapped[other], swapped[at]
            told.append(swapped)
    told += [rows + ["tie 0 1"], rows + ["tie 4 5"], rows + ["x"], rows + [""], rows + ["", ""], [""] + rows]
    return ["\n".join(one) for one in told]


def edits_of_signs(text):
    """Texts with one sign left out, put in, or put in place of another."""
    told = []
    for at in range(len(text) + 1):
        for sign in ("", " ", "\n", "0", "1", "5", "6", "7", "-", "w"):
            told += [text[:at] + sign + text[at:], text[:at] + sign + text[at + 1:]]
    return told


class Shown(unittest.TestCase):
    def test_some(self):
        self.assertTrue(same_kind(web_shown((1, ())), "web 1 0"))
        self.assertTrue(same_kind(web_shown((6, ())), "web 6 0"))
        self.assertTrue(same_kind(web_shown(path_web(4)), PATH))
        self.assertTrue(same_kind(web_shown(FULL6).split("\n")[0], "web 6 15"))
        self.assertTrue(same_kind(web_shown(FULL6).split("\n")[15], "tie 4 5"))

    def test_all_webs(self):
        for many in range(1, 7):
            for web in webs_of(many)[:: 5 if many == 6 else 1]:
                text = web_shown(web)
                self.assertTrue(same_kind(text, slow_text(web)))
                self.assertTrue(same_kind(web_read(text), web))


class Read(unittest.TestCase):
    def row_of(self, text):
        with self.assertRaises(NoText, msg=repr(text)) as caught:
            web_read(text)
        self.assertIs(type(caught.exception), NoText)
        self.assertIs(type(caught.exception.row), int)
        return caught.exception.row

    def check(self, text):
        due = slow_read(text)
        if isinstance(due, tuple):
            self.assertTrue(same_kind(web_read(text), due), text)
        else:
            self.assertEqual(self.row_of(text), due, text)

    def test_some(self):
        self.assertTrue(same_kind(web_read("web 1 0"), (1, ())))
        self.assertTrue(same_kind(web_read("web 6 0"), (6, ())))
        self.assertTrue(same_kind(web_read("web 3 1\ntie 0 2"), (3, ((0, 2),))))
        self.assertTrue(same_kind(web_read(PATH), path_web(4)))

    def test_what_is_no_text(self):
        for thing in NO_THINGS + [(), 0, ("web 1 0",), ["web 1 0"], {"web 1 0": 1}, (1, ()), nested("web 1 0", 19)]:
            if not isinstance(thing, str):
                self.assertEqual(self.row_of(thing), 0)

    def test_the_first_row(self):
        for text in ("", " ", "\n", "web", "web ", "web 1", "web 1 ", "web 1 0 ", " web 1 0", "web  1 0", "web 1  0",
                     "web 1 0 0", "Web 1 0", "tie 0 1", "web 0 0", "web 7 0", "web 10 0", "web 01 0", "web 1 00",
                     "web 1 01", "web -1 0", "web 1 -0", "web +1 0", "web 1.0 0", "web one 0", "1 0", "webb 1 0",
                     "web 1 0\t", "web\t1 0", "web,1,0", "\nweb 1 0", "web 1\n0", "web\n1 0", "x" * 100, "web " * 400):
            self.assertEqual(self.row_of(text), 1, text)
            self.assertEqual(self.row_of(text + "\nx\ntie 9 9"), 1, text)

    def test_figures_of_twenty_and_twenty_one_signs(self):
        self.assertEqual(self.row_of(f"web 2 {TWENTY}"), 2)
        self.assertEqual(self.row_of(f"web 2 {TWENTY}\ntie 0 1"), 3)
        self.assertEqual(self.row_of(f"web 2 {TWENTY}\ntie 0 1\ntie 0 1"), 3)
        self.assertEqual(self.row_of(f"web 2 {TWENTY}0"), 1)
        self.assertEqual(self.row_of(f"web 2 {'9' * 20}"), 2)
        self.assertEqual(self.row_of(f"web 2 {'9' * 21}"), 1)
        self.assertEqual(self.row_of(f"web 2 {'9' * 1900}"), 1)
        self.assertEqual(self.row_of(f"web {TWENTY} 0"), 1)
        self.assertEqual(self.row_of(f"web {'0' * 19}1 0"), 1)
        for number in (TWENTY, TWENTY + "0", "9" * 1900):
            self.assertEqual(self.row_of(f"web 3 2\ntie 0 1\ntie 0 {number}"), 3)

    def test_a_row_of_a_tie(self):
        for row in ("", " ", "tie", "tie 0", "tie 0 2 ", " tie 0 2", "tie  0 2", "tie 0  2", "tie 0 2 0", "tie 00 2",
                    "tie 0 02", "tie 2 0", "tie 2 2", "tie 0 3", "tie 3 4", "tie -1 2", "tie 0 -2", "cut 0 2", "web 3 3",
                    "Tie 0 2", "tie 0-2", "tie a b", "tie 0 1", "0 2", "tie 0 2.", "tie 0 +2", "tie 0 2\t", "x" * 100):
            self.assertEqual(self.row_of(f"web 3 3\ntie 0 1\n{row}\ntie 1 2"), 3, row)
            self.assertEqual(self.row_of(f"web 3 3\ntie 0 1\n{row}"), 3, row)
        self.assertEqual(self.row_of("web 3 3\ntie 0 2\ntie 0 1\ntie 1 2"), 3)
        self.assertEqual(self.row_of("web 3 3\ntie 1 2\ntie 0 2\ntie x"), 3)
        self.assertEqual(self.row_of("web 1 1\ntie 0 0"), 2)
        self.assertEqual(self.row_of("web 1 1\ntie 0 1"), 2)

    def test_too_many_rows(self):
        self.assertEqual(self.row_of("web 3 0\ntie 0 1"), 2)
        self.assertEqual(self.row_of("web 3 1\ntie 0 1\ntie 0 2"), 3)
        self.assertEqual(self.row_of("web 3 1\ntie 0 1\ntie 0 2\ntie 1 2"), 3)
        self.assertEqual(self.row_of("web 3 1\ntie 0 1\nx"), 3)
        self.assertEqual(self.row_of(web_shown(FULL6) + "\ntie 4 5"), 17)
        self.assertEqual(self.row_of("web 6 16" + web_shown(FULL6)[8:] + "\ntie 4 5"), 17)

    def test_a_line_feed_at_the_end(self):
        self.assertEqual(self.row_of("web 1 0\n"), 2)
        self.assertEqual(self.row_of("web 1 0\n\n"), 2)
        self.assertEqual(self.row_of(PATH + "\n"), 5)
        self.assertEqual(self.row_of("web 4 4\ntie 0 1\n"), 3)

    def test_too_few_rows(self):
        self.assertEqual(self.row_of("web 1 1"), 2)
        self.assertEqual(self.row_of("web 4 4" + PATH[7:]), 5)
        self.assertEqual(self.row_of("web 4 12" + PATH[7:]), 5)
        self.assertEqual(self.row_of("web 6 16" + web_shown(FULL6)[8:]), 17)

    def test_rows_edited(self):
        webs = small_webs()[::2] + webs_of(5)[::101] + webs_of(6)[::4001] + [FULL6]
        rows = set()
        for web in webs:
            for text in edits_of_rows(slow_text(web)):
                self.check(text)
                if not isinstance(slow_read(text), tuple):
                    rows.add(slow_read(text))
        self.assertEqual(rows, set(range(1, 18)))

    def test_signs_edited(self):
        good = 0
        for web in [(1, ()), (2, ((0, 1),)), path_web(4), (6, ((0, 5), (3, 4)))] + many_webs()[::311]:
            for text in edits_of_signs(slow_text(web)):
                self.check(text)
                good += isinstance(slow_read(text), tuple)
        # Some edits leave a text that is good all the same.
        self.assertGreater(good, 100)


if __name__ == "__main__":
    unittest.main()
