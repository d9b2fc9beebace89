"""Points 10.2 to 10.4: rootwebs/desk.py."""

import random
import re
import unittest

from rootwebs.desk import Desk
from rootwebs.errors import NoLine, NoNumber, NoPlace, NoRoot, NoWeb, RootError, TooGreat
from rootwebs.texts import web_read
from rootwebs.webs import steps_web
from tests.helper import (
    NO_THINGS, full_web, nested, path_web, ring_web, roots_table, slow_by, slow_fars, slow_knots, slow_roots, slow_steps,
    slow_tree, small_webs, webs_of, webs_to_try,
)

FULL6 = full_web(6)
TWENTY = "1" + "0" * 19
NUMBER = "(0|[1-9][0-9]{0,19})"
DUE = {
    "fresh": 1, "tie": 2, "cut": 2, "step": 1, "root": 0, "back": 0, "ties": 0, "far": 2, "star": 1, "still": 0,
    "roots": 0, "first": 0, "fewest": 0, "trees": 0, "pieces": 0, "knots": 0, "kinds": 0, "shown": 0,
}
DEEDS = ("fresh", "tie", "cut", "step", "root")
QUESTIONS = [row for row, many in DUE.items() if many == 0 and row not in DEEDS + ("back",)]


class Refusal(Exception):
    """A refusal of the slow desk: a class and the values of its fields."""


def joined(things):
    return " ".join(str(thing) for thing in things) or "none"


def dashed(tuples):
    return joined("-".join(str(place) for place in places) for places in tuples)


def slow_pieces(web):
    rows = [tuple(place for place, far in enumerate(row) if far is not None) for row in slow_fars(web)]
    return sorted(set(rows))


def slow_great(web):
    knots = slow_knots(web)
    return sorted(knot for knot in knots if not any(set(knot) < set(other) for other in knots))


def few_ties(web):
    if len(web[1]) > 12:
        raise Refusal(TooGreat, len(web[1]), 12)
    return web


def of_root(root):
    if root is None:
        return "none"
    return dashed(root[1]) if root[1] else "empty"


def places_due(web, numbers):
    if not all(number < web[0] for number in numbers):
        raise Refusal(NoPlace)


def slow_deed(web, word, numbers):
    """The web behind a deed, straight from the words."""
    many, ties = web
    if word == "fresh":
        if numbers[0] not in range(1, 7):
            raise Refusal(NoWeb, -1)
        return (numbers[0], ())
    if word in ("tie", "cut"):
        places_due(web, numbers)
        tie = tuple(sorted(numbers))
        if len(set(tie)) == 1 or (tie in ties) == (word == "tie"):
            raise Refusal(NoLine)
        return (many, tuple(sorted(set(ties) ^ {tie})))
    if word == "step":
        if numbers[0] not in range(1, 7):
            raise Refusal(NoNumber)
        return slow_steps(web, numbers[0])
    roots = slow_roots(few_ties(web))
    if not roots:
        raise Refusal(NoRoot)
    return roots[0]


def slow_answer(web, word, numbers):
    """The answer to a question, straight from the words."""
    if word == "ties":
        return dashed(web[1])
    if word == "far":
        places_due(web, numbers)
        far = slow_fars(web)[numbers[0]][numbers[1]]
        return "none" if far is None else str(far)
    if word == "star":
        places_due(web, numbers)
        return joined(place for place, far in enumerate(slow_fars(web)[numbers[0]]) if far in (0, 1))
    if word == "still":
        return "yes" if slow_steps(web, 2) == web else "no"
    if word == "roots":
        return str(len(slow_roots(few_ties(web))))
    if word == "first":
        return of_root(min(slow_roots(few_ties(web)), default=None))
    if word == "fewest":
        return of_root(min(slow_roots(few_ties(web)), key=lambda root: (len(root[1]), root), default=None))
    if word == "trees":
        return str(sum(slow_tree(root) for root in slow_roots(web)))
    if word == "pieces":
        return dashed(slow_pieces(web))
    if word == "knots":
        return dashed(slow_great(web))
    if word == "kinds":
        return joined(k for k in range(1, 6) if slow_by(few_ties(web), k))
    return " ; ".join([f"web {web[0]} {len(web[1])}"] + [f"tie {a} {b}" for a, b in web[1]])


def slow_words(row):
    """The word and the numbers of a row."""
    if isinstance(row, str):
        for word, many in DUE.items():
            found = re.fullmatch(word + (" " + NUMBER) * many, row)
            if found is not None:
                return word, [int(number) for number in found.groups()]
    raise Refusal(NoLine)


class SlowDesk:
    """Holds the deeds that stand alone, and does them anew each time."""

    def __init__(self):
        self.rows = []

    def web(self):
        web = (1, ())
        for row in self.rows:
            web = slow_deed(web, *slow_words(row))
        return web

    def say(self, row):
        word, numbers = slow_words(row)
        if word == "back":
            if not self.rows:
                raise Refusal(NoLine)
            self.rows.pop()
            return "ok"
        if word in DEEDS:
            slow_deed(self.web(), word, numbers)
            self.rows.append(row)
            return "ok"
        return slow_answer(self.web(), word, numbers)


def slow_told(desk, row):
    try:
        return desk.say(row)
    except Refusal as refusal:
        return refusal.args


def told(desk, row):
    """The answer, or the class and the fields of the refusal."""
    try:
        return desk.say(row)
    except RootError as error:
        return (type(error),) + tuple(vars(error).values())


def desk_of(web):
    """A desk that keeps the web."""
    desk = Desk()
    for row in [f"fresh {web[0]}"] + [f"tie {a} {b}" for a, b in web[1]]:
        assert desk.say(row) == "ok"
    return desk


def all_questions(web):
    """All rows that ask something of a web."""
    places = range(web[0] + 1)
    return QUESTIONS + [f"star {a}" for a in places] + [f"far {a} {b}" for a in places for b in places]


class DeskTest(unittest.TestCase):
    def check_all(self, desk, rows):
        for row, due in rows:
            answer = told(desk, row)
            self.assertEqual(answer, due, row)
            if isinstance(due, str):
                self.assertIs(type(answer), str)

    def check_kept(self, desk, web):
        """That the desk keeps the web, as its text shows."""
        self.assertEqual(web_read(desk.say("shown").replace(" ; ", "\n")), web)


class Deeds(DeskTest):
    """10.2"""

    def test_at_first_one_place(self):
        self.check_all(Desk(), [
            ("shown", "web 1 0"), ("ties", "none"), ("far 0 0", "0"), ("star 0", "0"), ("still", "yes"), ("roots", "1"),
            ("first", "empty"), ("fewest", "empty"), ("trees", "1"), ("pieces", "0"), ("knots", "0"),
            ("kinds", "1 2 3 4 5"), ("far 0 1", (NoPlace,)), ("star 1", (NoPlace,)), ("tie 0 1", (NoPlace,)),
            ("tie 0 0", (NoLine,)), ("cut 0 0", (NoLine,)), ("back", (NoLine,)), ("root", "ok"), ("back", "ok"),
            ("back", (NoLine,)),
        ])

    def test_fresh(self):
        desk = Desk()
        for many in range(1, 7):
            self.assertEqual(desk.say(f"fresh {many}"), "ok")
            self.assertEqual(desk.say("shown"), f"web {many} 0")
        self.check_all(desk, [("tie 0 5", "ok"), ("fresh 6", "ok"), ("ties", "none"), ("back", "ok"), ("ties", "0-5")])
        for number in ("0", "7", "10", TWENTY, "9" * 20):
            self.check_all(desk, [(f"fresh {number}", (NoWeb, -1)), ("shown", "web 6 1 ; tie 0 5")])
        for number in ("9" * 21, TWENTY + "0", "01", "00", "-1", "+1", "1.0", "x", "", " 1", "1 ", "1 1", "1\n"):
            self.check_all(desk, [(f"fresh {number}", (NoLine,)), ("shown", "web 6 1 ; tie 0 5")])

    def test_tie(self):
        self.check_all(Desk(), [
            ("fresh 4", "ok"), ("tie 2 1", "ok"), ("tie 0 3", "ok"), ("ties", "0-3 1-2"), ("tie 1 2", (NoLine,)),
            ("tie 2 1", (NoLine,)), ("tie 3 0", (NoLine,)), ("tie 1 1", (NoLine,)), ("tie 4 4", (NoPlace,)),
            ("tie 0 4", (NoPlace,)), ("tie 4 0", (NoPlace,)), (f"tie 0 {TWENTY}", (NoPlace,)),
            (f"tie 0 {TWENTY}0", (NoLine,)), ("tie 9 x", (NoLine,)), ("tie 9", (NoLine,)), ("tie 9 9 9", (NoLine,)),
            ("tie 00 1", (NoLine,)), ("tie -1 1", (NoLine,)), ("ties", "0-3 1-2"), ("tie 0 1", "ok"),
            ("shown", "web 4 3 ; tie 0 1 ; tie 0 3 ; tie 1 2"),
        ])

    def test_cut(self):
        self.check_all(Desk(), [
            ("fresh 3", "ok"), ("tie 0 1", "ok"), ("tie 1 2", "ok"), ("cut 2 1", "ok"), ("ties", "0-1"),
            ("cut 2 1", (NoLine,)), ("cut 1 2", (NoLine,)), ("cut 0 2", (NoLine,)), ("cut 1 1", (NoLine,)),
            ("cut 3 3", (NoPlace,)), ("cut 0 3", (NoPlace,)), ("cut 3 0", (NoPlace,)), (f"cut {TWENTY} 0", (NoPlace,)),
            (f"cut {TWENTY}0 0", (NoLine,)), ("cut 9 x", (NoLine,)), ("cut 0", (NoLine,)), ("ties", "0-1"),
            ("cut 0 1", "ok"), ("ties", "none"), ("tie 1 2", "ok"), ("ties", "1-2"),
        ])

    def test_step(self):
        for web in (path_web(6), ring_web(6), (6, ((0, 3), (1, 4), (3, 4))), FULL6, (1, ())):
            for k in range(1, 7):
                desk = desk_of(web)
                self.assertEqual(desk.say(f"step {k}"), "ok")
                self.check_kept(desk, slow_steps(web, k))
                self.check_all(desk, [("back", "ok")])
                self.check_kept(desk, web)
            for number in ("0", "7", "10", TWENTY):
                self.check_all(desk, [(f"step {number}", (NoNumber,))])
            for number in ("", "x", "-1", "01", TWENTY + "0", "1 1", "1\n"):
                self.check_all(desk, [(f"step {number}", (NoLine,))])
            self.check_kept(desk, web)

    def test_root(self):
        for web in webs_to_try()[::41] + sorted(roots_table(5))[::5]:
            desk = desk_of(web)
            roots = slow_roots(web)
            self.assertEqual(told(desk, "root"), "ok" if roots else (NoRoot,))
            self.check_kept(desk, roots[0] if roots else web)
            # A refusal is no deed: the last one that stands is undone.
            self.assertEqual(desk.say("back"), "ok")
            self.check_kept(desk, web if roots else (web[0], web[1][:-1]))

    def test_too_many_ties(self):
        # Each web of so many ties has a root, so TooGreat and NoRoot are never due at once.
        self.assertEqual([web for web in webs_of(6) if len(web[1]) > 12 and not slow_roots(web)], [])
        for many in (13, 14, 15):
            for ties in (FULL6[1][:many], FULL6[1][-many:]):
                web = (6, ties)
                desk = desk_of(web)
                for row in ("root", "roots", "first", "fewest", "kinds"):
                    self.assertEqual(told(desk, row), (TooGreat, many, 12))
                self.assertEqual(desk.say("trees"), str(sum(slow_tree(root) for root in slow_roots(web))))
                self.check_kept(desk, web)
        desk = desk_of((6, FULL6[1][:12]))
        self.assertEqual(told(desk, "roots"), str(len(slow_roots((6, FULL6[1][:12])))))
        self.assertEqual(told(desk, "root"), "ok" if slow_roots((6, FULL6[1][:12])) else (NoRoot,))

    def test_more_than_300_roots_are_counted(self):
        desk = desk_of(full_web(5))
        self.check_all(desk, [
            ("roots", "368"), ("first", "0-1 0-2 0-3 0-4"), ("fewest", "0-1 0-2 0-3 0-4"), ("trees", "5"),
            ("kinds", "1 2 3 4 5"), ("root", "ok"), ("ties", "0-1 0-2 0-3 0-4"), ("root", (NoRoot,)),
        ])

    def test_back_behind_each_deed(self):
        start = ["fresh 4", "tie 0 1", "tie 1 2", "tie 0 2"]
        shown = "web 4 3 ; tie 0 1 ; tie 0 2 ; tie 1 2"
        for deed in ("fresh 2", "fresh 4", "tie 0 3", "cut 0 2", "step 1", "step 2", "root"):
            desk = Desk()
            self.check_all(desk, [(row, "ok") for row in start] + [("shown", shown)])
            self.check_all(desk, [(deed, "ok"), ("back", "ok"), ("shown", shown), (deed, "ok"), ("back", "ok")])
            self.check_all(desk, [("back", "ok"), ("ties", "0-1 1-2"), ("tie 0 2", "ok"), ("shown", shown)])

    def test_back_as_often_as_deeds_stand(self):
        desk = Desk()
        rows = ["fresh 5", "tie 0 1", "tie 1 2", "step 2", "step 1", "root", "fresh 5", "fresh 5", "tie 3 4", "cut 3 4"]
        shown = []
        for row in rows:
            shown.append(desk.say("shown"))
            self.assertEqual(desk.say(row), "ok")
        for before in reversed(shown):
            self.check_all(desk, [("ties 1", (NoLine,)), ("back", "ok"), ("shown", before)])
        self.check_all(desk, [("back", (NoLine,)), ("shown", "web 1 0"), ("back", (NoLine,)), ("fresh 2", "ok")])
        self.check_all(desk, [("back", "ok"), ("back", (NoLine,))])

    def test_a_deed_that_changes_nothing_stands_too(self):
        self.check_all(Desk(), [
            ("fresh 1", "ok"), ("step 1", "ok"), ("root", "ok"), ("back", "ok"), ("back", "ok"), ("back", "ok"),
            ("back", (NoLine,)),
        ])

    def test_back_is_not_undone_itself(self):
        self.check_all(Desk(), [
            ("fresh 2", "ok"), ("fresh 3", "ok"), ("back", "ok"), ("shown", "web 2 0"), ("back", "ok"),
            ("shown", "web 1 0"), ("back", (NoLine,)),
        ])


class Questions(DeskTest):
    """10.3"""

    def test_some(self):
        self.check_all(desk_of((6, ((0, 1), (0, 2), (1, 2), (2, 3)))), [
            ("ties", "0-1 0-2 1-2 2-3"), ("far 0 3", "2"), ("far 3 0", "2"), ("far 4 4", "0"), ("far 0 4", "none"),
            ("far 0 6", (NoPlace,)), ("far 6 0", (NoPlace,)), (f"far 0 {TWENTY}", (NoPlace,)), ("star 2", "0 1 2 3"),
            ("star 4", "4"), ("star 6", (NoPlace,)), (f"star {TWENTY}", (NoPlace,)), ("still", "no"), ("roots", "0"),
            ("first", "none"), ("fewest", "none"), ("trees", "0"), ("pieces", "0-1-2-3 4 5"),
            ("knots", "0-1-2 2-3 4 5"), ("kinds", "1"), ("shown", "web 6 4 ; tie 0 1 ; tie 0 2 ; tie 1 2 ; tie 2 3"),
        ])

    def test_without_ties_and_with_all(self):
        for many in range(1, 7):
            places = " ".join(str(place) for place in range(many))
            self.check_all(desk_of((many, ())), [
                ("ties", "none"), ("still", "yes"), ("roots", "1"), ("first", "empty"), ("fewest", "empty"),
                ("trees", "1" if many == 1 else "0"), ("pieces", places), ("knots", places), ("kinds", "1 2 3 4 5"),
                ("shown", f"web {many} 0"),
            ])
            whole = "-".join(str(place) for place in range(many))
            self.check_all(desk_of(full_web(many)), [
                ("still", "yes"), ("pieces", whole), ("knots", whole), ("star 0", places),
                ("trees", str(many) if many != 2 else "1"),
            ])

    def test_first_and_fewest_are_two_things(self):
        unlike = [web for web in webs_to_try() if slow_answer(web, "first", []) != slow_answer(web, "fewest", [])]
        self.assertGreater(len(unlike), 20)
        for web in unlike[::7]:
            self.check_all(desk_of(web), [(row, slow_answer(web, row, [])) for row in ("first", "fewest")])

    def test_all_questions_of_many_webs(self):
        webs = small_webs()[::2] + webs_of(5)[::23] + webs_of(6)[::601] + sorted(roots_table(6))[::101]
        for web in webs + [(6, FULL6[1][:many]) for many in (12, 13, 14, 15)]:
            desk = desk_of(web)
            for row in all_questions(web):
                due = slow_told_of(web, row)
                self.assertEqual(told(desk, row), due, (web, row))
            # Questions are no deeds: nothing of them is undone.
            self.check_kept(desk, web)
            self.assertEqual(desk.say("back"), "ok")
            self.check_kept(desk, (web[0], web[1][:-1]) if web[1] else (1, ()))


def slow_told_of(web, row):
    try:
        return slow_answer(web, *slow_words(row))
    except Refusal as refusal:
        return refusal.args


WRONG_ROWS = [
    "", " ", "  ", "\n", "x", "TIES", "Ties", "ties ", " ties", "ties\n", "\nties", "ti\nes", "ties\nties", "ties 0",
    "ties ties", "tie", "tie ", "tie 0", "tie 0 ", "tie 0 1 ", " tie 0 1", "tie  0 1", "tie 0  1", "tie 0 1 2",
    "tie 0 1\n", "\ntie 0 1", "tie\n0 1", "tie 0\n1", "tie\n0\n1", "tie 0 1\ntie 1 2", "tie 00 1", "tie 0 01",
    "tie -0 1", "tie 0 -1", "tie +0 1", "tie 0 1.0", "tie a b", "tie 0,1", "tie 0-1", "tie 0 " + "1" * 21,
    "tie 0 " + "0" * 20, "tie 0 " + "9" * 1900, "cut", "cut 0", "cut 0 1 2", "cut  0 1", "cut 0 1\n", "cut x 1",
    "fresh", "fresh ", "fresh x", "fresh 2 2", "fresh 02", "fresh 2\n", "fresh  2", "fresh -2", "fresh " + "2" * 21,
    "step", "step ", "step two", "step 1 1", "step 01", "step 1\n", "root 1", "root ", "root\n", " root", "Root", "roots 1",
    "back 1", "back ", "back\n", " back", "BACK", "back back", "far", "far 0", "far 0 0 0", "far 0 x", "far 0 0\n", "star",
    "star x", "star 0 0", "star 00", "star 0\n", "star -0", "still 0", "still\n", "first 1", "fewest 1", "trees 0",
    "pieces 0", "knots 0", "kinds 2", "shown 0", "shown ; shown", "web 1 0", "ok", "none", "empty", "help", "undo",
    "tie " * 499, "x" * 2000, "\n" * 2000, "ties;", "ties\tties", "tie\t0 1", "0", "0 1", "0-1",
]


class Refused(DeskTest):
    """10.4"""

    def desks(self):
        """Desks with their webs: of one place, of some ties, and of more ties than roots are told of."""
        return [(desk_of(web), web) for web in ((1, ()), (4, ((0, 1), (0, 2), (1, 2))), path_web(3), FULL6)]

    def test_what_is_no_row(self):
        wrong = WRONG_ROWS + NO_THINGS
        wrong += [["ties"], ("ties",), {"ties": "ties"}, nested("ties", 19), ["tie 0 1"], ("tie", 0, 1), ["tie", "0", "1"]]
        for desk, web in self.desks():
            for row in wrong:
                self.assertEqual(told(desk, row), (NoLine,), row)
            self.check_kept(desk, web)

    def test_each_word_with_another_number_of_words(self):
        for desk, web in self.desks():
            for word, many in DUE.items():
                for size in range(5):
                    row = " ".join([word] + ["9"] * size)
                    if size != many:
                        self.assertEqual(told(desk, row), (NoLine,), row)
            self.check_kept(desk, web)

    def test_no_line_goes_ahead_of_all_else(self):
        for desk, web in self.desks():
            for row in ("tie 9 x", "tie x 9", "cut 9 x", "far 9 x", "star 9 9", "fresh 9 9", "fresh 9 ", "step 9 9",
                        "root 9", "roots 9", "first 9", "fewest 9", "kinds 9", "tie 9 9 9", "tie 9 09", "far 9 99 ",
                        "step 09", "fresh 00", "star 09", "tie 9 9\n", "fresh 9\n", "root\n"):
                self.assertEqual(told(desk, row), (NoLine,), row)

    def test_a_refusal_changes_nothing(self):
        for web in (path_web(5), FULL6, path_web(3)):
            desk = desk_of(web)
            before = {row: told(desk, row) for row in all_questions(web)}
            rows = WRONG_ROWS + ["tie 0 9", "tie 0 2" if (0, 2) in web[1] else "cut 0 2", "fresh 9", "step 9", "root"]
            for row in rows:
                self.assertNotEqual(told(desk, row), "ok", row)
            self.assertEqual({row: told(desk, row) for row in all_questions(web)}, before)
            for at in reversed(range(len(web[1]))):
                self.assertEqual(desk.say("back"), "ok")
                self.check_kept(desk, (web[0], web[1][:at]))
            self.check_all(desk, [("back", "ok"), ("shown", "web 1 0"), ("back", (NoLine,))])


def rows_by_chance(chance, many):
    """Rows, most of them good, that bring a desk to many webs; the same ones each time."""
    rows = []
    for _ in range(many):
        kind = chance.randrange(20)
        numbers = [chance.randrange(6) for _ in range(2)]
        if kind < 7:
            rows.append(f"tie {numbers[0]} {numbers[1]}")
        elif kind < 9:
            rows.append(f"cut {numbers[0]} {numbers[1]}")
        elif kind < 10:
            rows.append(f"fresh {chance.choice((0, 3, 4, 5, 5, 6, 6, 6, 7))}")
        elif kind < 11:
            rows.append(f"step {chance.choice((0, 1, 2, 2, 3, 6, 7))}")
        elif kind < 12:
            rows.append("root")
        elif kind < 14:
            rows.append("back")
        elif kind < 15:
            rows.append(chance.choice(WRONG_ROWS))
        elif kind < 16:
            rows.append(f"far {numbers[0]} {numbers[1]}")
        elif kind < 17:
            rows.append(f"star {numbers[0]}")
        else:
            rows.append(chance.choice(QUESTIONS))
    return rows


class So(DeskTest):
    """10.4: what is answered hangs on the deeds that stand alone."""

    def test_two_desks_told_by_turns(self):
        answers = {}
        for seed in range(100):
            chance = random.Random(seed)
            desks = [(Desk(), SlowDesk()), (Desk(), SlowDesk())]
            for row in rows_by_chance(chance, 160):
                desk, slow = desks[chance.randrange(2)]
                due = slow_told(slow, row)
                self.assertEqual(told(desk, row), due, (seed, row))
                answers[row.split(" ")[0], due[0] if isinstance(due, tuple) else "answer"] = row
            for desk, slow in desks:
                self.check_kept(desk, slow.web())
        # Each refusal that a good row may have was seen, and each row answered.
        due = [(word, "answer") for word in DUE] + [
            ("fresh", NoWeb), ("tie", NoPlace), ("tie", NoLine), ("cut", NoPlace), ("cut", NoLine), ("step", NoNumber),
            ("root", TooGreat), ("root", NoRoot), ("back", NoLine), ("far", NoPlace), ("star", NoPlace),
            ("roots", TooGreat), ("first", TooGreat), ("fewest", TooGreat), ("kinds", TooGreat),
        ]
        self.assertEqual([pair for pair in due if pair not in answers], [])

    def test_a_new_desk_told_the_deeds_that_stand_answers_alike(self):
        for seed in range(100, 115):
            desk, slow = Desk(), SlowDesk()
            for row in rows_by_chance(random.Random(seed), 120):
                told(desk, row)
                slow_told(slow, row)
            other = Desk()
            for row in slow.rows:
                self.assertEqual(other.say(row), "ok")
            for row in all_questions(slow.web()):
                self.assertEqual(told(other, row), told(desk, row))
            for _ in slow.rows:
                self.check_all(desk, [("back", "ok"), ("ties", told_behind_back(other))])
            self.assertEqual(told(desk, "back"), (NoLine,))
            self.assertEqual(told(other, "back"), (NoLine,))

    def test_what_one_desk_is_told_another_does_not_know(self):
        one, other = Desk(), Desk()
        self.check_all(one, [("fresh 3", "ok"), ("tie 0 1", "ok")])
        self.check_all(other, [("shown", "web 1 0"), ("back", (NoLine,)), ("fresh 2", "ok")])
        self.check_all(one, [("shown", "web 3 1 ; tie 0 1"), ("back", "ok"), ("back", "ok"), ("back", (NoLine,))])
        self.check_all(other, [("shown", "web 2 0"), ("back", "ok"), ("shown", "web 1 0")])
        self.check_all(Desk(), [("shown", "web 1 0"), ("back", (NoLine,))])

    def test_calls_in_between_change_no_desk(self):
        desk = desk_of(path_web(4))
        steps_web(path_web(4), 3)
        desk_of(FULL6).say("trees")
        self.check_kept(desk, path_web(4))


def told_behind_back(desk):
    """What a desk answers of its ties when its last deed is undone."""
    desk.say("back")
    return desk.say("ties")


if __name__ == "__main__":
    unittest.main()
