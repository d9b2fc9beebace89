"""Points 4.1 to 4.4: rootwebs/papers.py."""

import itertools
import unittest

from rootwebs.errors import NoLine, NoRoot
from rootwebs.papers import forced, leaves_of, paper_for, paper_good
from rootwebs.roots import next_truths, roots_begun
from tests.helper import (
    NO_THINGS, beginnings, fields_of_too_great, full_web, is_one_of, nested, pairs_of, path_web, roots_table,
    same_kind, slow_begun, slow_roots, small_webs, spoilt, truths_of, webs_of, webs_to_try,
)

PATH3 = path_web(3)
FULL3 = full_web(3)
ALL6 = full_web(6)[1]
THIRTEEN = (6, ALL6[:13])
# One of the webs of twelve ties without a root.
TWELVE = (6, tuple(tie for tie in ALL6 if tie not in ((0, 1), (0, 2), (3, 4))))
LOST0 = ("lost", 0)
PAPER3 = ("cases", LOST0, ("cases", ("lost", 1), ("more", 0, 1, 2)))
NO_BEGINNINGS = [thing for thing in NO_THINGS if thing != (True, False)] + [
    [True], [True, False], (1,), (0, 1), (True, 1), (True, None), ((True,),), (True, True, True), (True, []), "TF",
]


def fate(web, begun, a, b):
    """What the beginning says of two places: untied in the web, in, out, or left."""
    pair = tuple(sorted((a, b)))
    if pair not in web[1]:
        return "untied"
    at = web[1].index(pair)
    if at >= len(begun):
        return "left"
    return "in" if begun[at] else "out"


def slow_leaves(web, begun):
    """All papers of the first two kinds, straight from their words."""
    many, ties = web
    mores = [("more", a, c, b) for a, b in pairs_of(many) for c in range(many)
             if (a, b) not in ties and fate(web, begun, a, c) == "in" and fate(web, begun, c, b) == "in"]
    losts = [("lost", number) for number, (a, b) in enumerate(ties)
             if fate(web, begun, a, b) == "out" and not any(
                 fate(web, begun, a, c) in ("in", "left") and fate(web, begun, b, c) in ("in", "left")
                 for c in range(many) if c not in (a, b))]
    return mores + losts


def slow_good(web, begun, thing):
    if is_one_of(thing, slow_leaves(web, begun)):
        return True
    if type(thing) is not tuple or len(thing) != 3 or thing[0] != "cases" or len(begun) == len(web[1]):
        return False
    return slow_good(web, begun + (False,), thing[1]) and slow_good(web, begun + (True,), thing[2])


def deepest(web, begun):
    """A paper by cases as deep as can be, None where some root begins so."""
    if len(begun) == len(web[1]):
        leaves = slow_leaves(web, begun)
        return leaves[-1] if leaves else None
    out = deepest(web, begun + (False,))
    inside = deepest(web, begun + (True,))
    return None if out is None or inside is None else ("cases", out, inside)


def count(paper):
    return sum(count(part) for part in paper[1:]) if paper[0] == "cases" else 1


def some_asked():
    """Webs with beginnings: of small webs all, of greater ones those about their roots and some others."""
    asked = [(web, begun) for web in small_webs() for begun in beginnings(web)]
    for web in webs_to_try()[80::41]:
        whole = [truths_of(web, root) for root in slow_roots(web)[:3]]
        whole += [tuple(at % by == 0 for at in range(len(web[1]))) for by in (1, 2, 3, 20)]
        asked += [(web, truths[:size]) for truths in whole for size in range(len(truths) + 1)]
    return asked


class Leaves(unittest.TestCase):
    """4.2: papers of the first two kinds."""

    def test_more(self):
        self.assertIs(paper_good(PATH3, (True, True), ("more", 0, 1, 2)), True)
        self.assertIs(paper_good(PATH3, (True, True), ("more", 2, 1, 0)), False)
        self.assertIs(paper_good(PATH3, (True, False), ("more", 0, 1, 2)), False)
        self.assertIs(paper_good(PATH3, (False, True), ("more", 0, 1, 2)), False)
        self.assertIs(paper_good(PATH3, (True,), ("more", 0, 1, 2)), False)
        self.assertIs(paper_good(FULL3, (True, True, True), ("more", 0, 1, 2)), False)

    def test_lost(self):
        self.assertIs(paper_good(FULL3, (False, False), LOST0), True)
        self.assertIs(paper_good(FULL3, (False, False), ("lost", 1)), True)
        self.assertIs(paper_good(FULL3, (False, False), ("lost", 2)), False)
        self.assertIs(paper_good(FULL3, (False, True), LOST0), False)
        self.assertIs(paper_good(FULL3, (False,), LOST0), False)
        self.assertIs(paper_good(FULL3, (True, True, False), LOST0), False)
        self.assertIs(paper_good(FULL3, (True, False, False), ("lost", -1)), False)

    def test_two_places(self):
        web = (2, ((0, 1),))
        self.assertIs(paper_good(web, (False,), LOST0), True)
        self.assertIs(paper_good(web, (True,), LOST0), False)
        self.assertIs(paper_good(web, (), LOST0), False)

    def test_one_place_and_no_ties(self):
        for many in range(1, 7):
            for thing in (LOST0, ("more", 0, 0, 0), ("more", 0, 1, 2), ("cases", LOST0, LOST0), PAPER3):
                self.assertIs(paper_good((many, ()), (), thing), False)

    def test_all_numbers_against_the_words(self):
        asked = [(web, begun) for web in small_webs() for begun in beginnings(web)]
        good = set()
        for web, begun in asked:
            leaves = slow_leaves(web, begun)
            things = [("lost", number) for number in range(-len(web[1]) - 1, len(web[1]) + 2)]
            things += [("more",) + places for places in itertools.product(range(-1, web[0] + 1), repeat=3)]
            for thing in things:
                self.assertIs(paper_good(web, begun, thing), thing in leaves, (web, begun, thing))
            good |= {leaf[0] for leaf in leaves}
        self.assertEqual(good, {"more", "lost"})

    def test_greater_webs_against_the_words(self):
        for web, begun in some_asked()[::7]:
            leaves = slow_leaves(web, begun)
            things = [("lost", number) for number in range(len(web[1]))]
            things += [("more",) + places for places in itertools.permutations(range(web[0]), 3)]
            for thing in things:
                self.assertIs(paper_good(web, begun, thing), thing in leaves, (web, begun, thing))


class Cases(unittest.TestCase):
    """4.2: papers of the third kind, and what is no paper."""

    def test_cases(self):
        self.assertIs(paper_good(PATH3, (), PAPER3), True)
        self.assertIs(paper_good(PATH3, (True,), PAPER3[2]), True)
        self.assertIs(paper_good(PATH3, (True,), PAPER3), False)
        self.assertIs(paper_good(PATH3, (False,), PAPER3[2]), False)

    def test_out_goes_ahead_of_in(self):
        self.assertIs(paper_good(PATH3, (), ("cases", PAPER3[2], LOST0)), False)
        self.assertIs(paper_good(PATH3, (True,), ("cases", ("more", 0, 1, 2), ("lost", 1))), False)

    def test_both_cases_must_be_papers(self):
        for wrong in (None, (), LOST0, PAPER3, ("more", 0, 1, 2)):
            self.assertIs(paper_good(PATH3, (), ("cases", LOST0, wrong)), False)
        for wrong in (None, (), ("lost", 1), PAPER3, ("more", 0, 1, 2)):
            self.assertIs(paper_good(PATH3, (), ("cases", wrong, PAPER3[2])), False)

    def test_no_cases_where_no_tie_is_left(self):
        begun = (False, False)
        self.assertIs(paper_good(PATH3, begun, LOST0), True)
        self.assertIs(paper_good(PATH3, begun, ("cases", LOST0, LOST0)), False)
        self.assertIs(paper_good(PATH3, begun[:1], ("cases", LOST0, LOST0)), True)

    def test_cases_where_one_of_the_first_two_kinds_would_do(self):
        both = ("cases", LOST0, LOST0)
        self.assertIs(paper_good(PATH3, (), ("cases", both, PAPER3[2])), True)
        self.assertIs(paper_good(PATH3, (), ("cases", ("cases", both, LOST0), PAPER3[2])), False)

    def test_as_deep_as_can_be(self):
        self.assertEqual(slow_roots(TWELVE), ())
        paper = deepest(TWELVE, ())
        self.assertIs(paper_good(TWELVE, (), paper), True)
        self.assertEqual(leaves_of(TWELVE, (), paper), 2 ** 12)
        self.assertIs(paper_good(TWELVE, (True,), paper), False)
        self.assertIs(paper_good(TWELVE, (True,) * 5, paper[2][2][2][2][2]), True)
        self.assertEqual(leaves_of(TWELVE, (True,) * 5, paper[2][2][2][2][2]), 2 ** 7)
        self.assertIs(paper_good(TWELVE, (), ("cases", paper, paper)), False)

    def test_one_leaf_wrong_deep_down(self):
        web = path_web(6)
        paper = deepest(web, ())

        def changed(paper, path, leaf):
            if not path:
                return leaf
            parts = list(paper)
            parts[path[0]] = changed(paper[path[0]], path[1:], leaf)
            return tuple(parts)

        for path in itertools.product((1, 2), repeat=5):
            begun = tuple(side == 2 for side in path)
            for leaf in (("lost", 0), ("lost", 4), ("more", 0, 1, 2), ("more", 3, 4, 5), ("lost", 5), None):
                good = leaf in slow_leaves(web, begun)
                self.assertIs(paper_good(web, (), changed(paper, path, leaf)), good)

    def test_wrong_things(self):
        known = 0
        for web, begun, paper in [
                (PATH3, (), PAPER3), (PATH3, (True, True), ("more", 0, 1, 2)), (FULL3, (False, False), LOST0),
                (FULL3, (False, False), ("lost", 1)), (PATH3, (True,), PAPER3[2]),
                ((6, ((0, 3), (1, 3), (2, 5))), (), paper_for((6, ((0, 3), (1, 3), (2, 5))), ()))]:
            self.assertIs(slow_good(web, begun, paper), True)
            for thing in spoilt(paper):
                good = slow_good(web, begun, thing)
                self.assertIs(paper_good(web, begun, thing), good, thing)
                known += good
        # Near things that are good themselves are few: else nothing wrong was tried.
        self.assertLess(known, 20)

    def test_whatever_is_handed_in(self):
        for thing in NO_THINGS + [(), ("more",), ("lost",), ("cases",), "lost", ("lost", (0,)), ("lost", 0, 0),
                                  ("more", 0, 1), ("more", 0, 1, 2, 2), ("cases", LOST0), ("cases",) + (LOST0,) * 3,
                                  ["lost", 0], {"lost": 0}, ("LOST", 0), ("lost", "0"), ("lost", False),
                                  ("more", False, True, 2), (("lost", 0),), nested(LOST0, 18), (None, 0), ([], 0),
                                  ({}, LOST0, LOST0), (LOST0, LOST0, LOST0), ("lost", 10 ** 39), ("lost", -1),
                                  ("cases", None, None), ("cases", [], {})]:
            for web, begun in ((PATH3, (False, False)), (PATH3, (True, True)), (PATH3, ()), (FULL3, (False, False)),
                               ((1, ()), ())):
                self.assertIs(paper_good(web, begun, thing), False, thing)

    def test_cases_twenty_deep(self):
        for inmost in (None, LOST0, ("more", 0, 1, 2), ("cases",), "x"):
            thing = inmost
            for _ in range(19):
                thing = ("cases", LOST0, thing)
                for web in (PATH3, FULL3, (1, ()), TWELVE):
                    self.assertIs(paper_good(web, (), thing), slow_good(web, (), thing))


class PaperFor(unittest.TestCase):
    """4.3"""

    def test_some(self):
        self.assertIs(slow_good(PATH3, (), paper_for(PATH3, ())), True)
        self.assertIsNone(paper_for(FULL3, ()))
        self.assertIsNone(paper_for(FULL3, (True, True, True)))
        self.assertIs(slow_good(FULL3, (False, False), paper_for(FULL3, (False, False))), True)
        self.assertEqual(paper_for((2, ((0, 1),)), (False,)), LOST0)
        self.assertEqual(paper_for(PATH3, (True, True)), ("more", 0, 1, 2))

    def test_no_ties(self):
        for many in range(1, 7):
            self.assertIsNone(paper_for((many, ()), ()))

    def test_there_is_just_one_of_both(self):
        # A paper or a root: whatever web, whatever beginning.
        papers = 0
        for web, begun in some_asked():
            paper = paper_for(web, begun)
            self.assertEqual(paper is None, slow_begun(web, begun) != [], (web, begun))
            if paper is not None:
                papers += 1
                self.assertIs(slow_good(web, begun, paper), True)
                self.assertIs(paper_good(web, begun, paper), True)
        self.assertGreater(papers, 500)

    def test_there_is_just_one_of_both_for_an_empty_beginning(self):
        for web in webs_to_try()[::2]:
            paper = paper_for(web, ())
            self.assertEqual(paper is None, slow_roots(web) != ())
            self.assertTrue(paper is None or paper_good(web, (), paper))

    def test_twelve_ties(self):
        self.assertIs(paper_good(TWELVE, (), paper_for(TWELVE, ())), True)
        web = min(web for web in roots_table(6) if len(web[1]) == 12)
        self.assertIsNone(paper_for(web, ()))
        for root in slow_roots(web):
            self.assertIsNone(paper_for(web, truths_of(web, root)))
        paper = paper_for(web, (False,) * 12)
        self.assertIn(paper, slow_leaves(web, (False,) * 12))

    def test_where_there_is_a_paper_no_root_begins_so(self):
        # Papers that were not told, but put together here, as well.
        for web in webs_of(3) + webs_of(4)[::2]:
            for begun in beginnings(web):
                for paper in slow_leaves(web, begun) + [deepest(web, begun)]:
                    if paper is not None:
                        self.assertIs(paper_good(web, begun, paper), True)
                        self.assertEqual(roots_begun(web, begun), 0)


class LeavesOf(unittest.TestCase):
    """4.3"""

    def test_some(self):
        self.assertTrue(same_kind(leaves_of(PATH3, (), PAPER3), 3))
        self.assertTrue(same_kind(leaves_of(PATH3, (True,), PAPER3[2]), 2))
        self.assertTrue(same_kind(leaves_of(PATH3, (True, True), ("more", 0, 1, 2)), 1))
        self.assertTrue(same_kind(leaves_of(FULL3, (False, False), ("lost", 1)), 1))
        self.assertEqual(leaves_of(PATH3, (), ("cases", ("cases", LOST0, LOST0), PAPER3[2])), 4)

    def test_many(self):
        for web, begun in some_asked()[::3]:
            paper = paper_for(web, begun)
            if paper is not None:
                self.assertTrue(same_kind(leaves_of(web, begun, paper), count(paper)))

    def test_what_is_no_paper(self):
        for web, begun, paper in ((PATH3, (), PAPER3), (FULL3, (False, False), LOST0),
                                  (PATH3, (True, True), ("more", 0, 1, 2))):
            for thing in spoilt(paper) + [PAPER3[2], ("more", 2, 1, 0), ("lost", 7), ("lost", False)]:
                if not slow_good(web, begun, thing):
                    with self.assertRaises(NoRoot, msg=repr(thing)):
                        leaves_of(web, begun, thing)


class Forced(unittest.TestCase):
    """4.4"""

    def test_some(self):
        self.assertTrue(same_kind(forced(FULL3, ()), [False, True]))
        self.assertTrue(same_kind(forced(FULL3, (False,)), [True]))
        self.assertTrue(same_kind(forced(FULL3, (True,)), [False, True]))
        self.assertTrue(same_kind(forced(FULL3, (False, False)), []))
        self.assertTrue(same_kind(forced(PATH3, ()), [True]))
        self.assertTrue(same_kind(forced(PATH3, (True,)), []))

    def test_no_tie_is_left(self):
        self.assertTrue(same_kind(forced((1, ()), ()), []))
        self.assertTrue(same_kind(forced((6, ()), ()), []))
        self.assertTrue(same_kind(forced(FULL3, (True, True, True)), []))
        self.assertTrue(same_kind(forced(TWELVE, (True,) * 12), []))

    def test_against_the_words(self):
        for web, begun in some_asked():
            truths = [truth for truth in (False, True)
                      if len(begun) < len(web[1]) and not slow_leaves(web, begun + (truth,))]
            self.assertTrue(same_kind(forced(web, begun), truths))

    def test_the_truths_of_roots_are_among_these(self):
        unlike = 0
        for web, begun in some_asked():
            truths = forced(web, begun)
            for truth in next_truths(web, begun):
                self.assertIn(truth, truths)
            unlike += truths != next_truths(web, begun)
        # They look at papers of the first two kinds alone, so they may be more.
        self.assertGreater(unlike, 0)


class Refusals(unittest.TestCase):
    """4.1"""

    def test_too_many_ties_go_ahead_of_all_else(self):
        for many in (13, 14, 15):
            for ties in list(itertools.combinations(ALL6, many))[::5]:
                for begun in ((), (True,) * 13, None, [True], (1,), "x", (True,) * 99):
                    web = (6, ties)
                    told = [fields_of_too_great(self, call, web, begun) for call in (paper_for, forced)]
                    for thing in (None, LOST0, PAPER3, "x"):
                        told += [fields_of_too_great(self, call, web, begun, thing) for call in (paper_good, leaves_of)]
                    self.assertEqual(set(told), {(many, 12)})

    def test_twelve_ties_are_not_too_many(self):
        self.assertIs(paper_good(TWELVE, (), None), False)
        self.assertEqual(forced(TWELVE, ()), [truth for truth in (False, True) if not slow_leaves(TWELVE, (truth,))])
        self.assertGreater(leaves_of(TWELVE, (), paper_for(TWELVE, ())), 1)

    def test_no_beginning_goes_ahead_of_no_paper(self):
        for begun in NO_BEGINNINGS:
            for call in (paper_for, forced):
                with self.assertRaises(NoLine, msg=repr(begun)):
                    call(PATH3, begun)
            for thing in (None, LOST0, PAPER3, ("more", 0, 1, 2), "x", []):
                for call in (paper_good, leaves_of):
                    with self.assertRaises(NoLine, msg=repr(begun)):
                        call(PATH3, begun, thing)

    def test_a_beginning_longer_than_the_ties(self):
        for web in ((1, ()), (6, ()), FULL3, TWELVE):
            begun = (True,) * (len(web[1]) + 1)
            for call in (paper_for, forced):
                with self.assertRaises(NoLine):
                    call(web, begun)
            for call in (paper_good, leaves_of):
                with self.assertRaises(NoLine):
                    call(web, begun, LOST0)
            paper_for(web, begun[1:])

    def test_nothing_changes_by_a_refusal(self):
        before = paper_for(PATH3, ())
        with self.assertRaises(NoRoot):
            leaves_of(PATH3, (), ("lost", 0))
        self.assertEqual(paper_for(PATH3, ()), before)


if __name__ == "__main__":
    unittest.main()
