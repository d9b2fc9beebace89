"""Points 5.1 to 5.5: rootwebs/trees.py."""

import itertools
import unittest
from functools import lru_cache

from rootwebs.errors import NoNumber, NoTree
from rootwebs.roots import roots_many
from rootwebs.trees import alike_trees, bar_good, bar_of, first_tree, tree_by, tree_good, tree_roots, word_of
from rootwebs.webs import renamed, two_step
from tests.helper import (
    NO_THINGS, full_web, is_one_of, many_webs, nested, path_web, ring_web, roots_table, same_kind, slow_fars,
    slow_rings, slow_roots, slow_tree, slow_two_step, small_webs, spoilt, tied, trees_of, webs_of,
)

PATH4 = path_web(4)
STAR4 = (4, ((0, 1), (0, 2), (0, 3)))
TREE6 = (6, ((0, 3), (1, 3), (2, 3), (3, 4), (4, 5)))
APART = (6, ((0, 4), (1, 2), (2, 5)))
NO_TREES = NO_THINGS + [
    (0, ()), (2, ()), (3, ((0, 1),)), full_web(3), (4, ((0, 1), (0, 2), (1, 2))), (6, ((0, 1), (2, 3), (4, 5))),
    (4, [(0, 1), (1, 2), (2, 3)]), [4, ((0, 1), (1, 2), (2, 3))], (4, ((0, 1), (1, 2), (3, 2))),
    (4, ((0, 1), (2, 3), (1, 2))), (4, ((0, True), (1, 2), (2, 3))), (4, ((False, 1), (1, 2), (2, 3))), (True, ()),
    (4, ((0, 1), (1, 2), (2, 3)), ()), (4,), (3, ((0, 1), (1, 3))), (7, tuple((a, a + 1) for a in range(6))),
    nested(PATH4, 1), nested(PATH4, 17), {4: ()}, "tree", (3, ((0, 1), (0, 1))), (2, ((0, 1), (0, 1))),
]


def all_trees():
    return [tree for many in range(1, 7) for tree in trees_of(many)]


@lru_cache(maxsize=None)
def tree_texts():
    """What repr shows of all trees: it tells kinds apart that are equal in Python."""
    return frozenset(repr(tree) for tree in all_trees())


def worded_trees():
    return [tree for tree in all_trees() if tree[0] >= 3]


def slow_word(tree):
    """The word straight from its words: places with those tied to them, the least end taken off."""
    near = {place: {b if a == place else a for a, b in tree[1] if place in (a, b)} for place in range(tree[0])}
    word = []
    while len(near) > 2:
        end = min(place for place in near if len(near[place]) == 1)
        (other,) = near.pop(end)
        near[other].remove(end)
        word.append(other)
    return tuple(word)


def slow_bars(web):
    """All tree bars of a web."""
    fars = slow_fars(web)
    bars = [("apart", a, b) for a in range(web[0]) for b in range(web[0]) if fars[a][b] is None]
    for ring in slow_rings(web):
        far_in_ring = [(one, other) for at, one in enumerate(ring) for other in ring[at + 2:]]
        far_in_ring = [pair for pair in far_in_ring if pair != (ring[0], ring[-1])]
        if len(ring) >= 4 and not any(tied(web, one, other) for one, other in far_in_ring):
            bars.append(("ring", ring))
    return bars


def slow_alike(one, other):
    if one[0] == other[0]:
        for names in itertools.permutations(range(one[0])):
            if tuple(sorted(tuple(sorted((names[a], names[b]))) for a, b in one[1])) == other[1]:
                return names
    return None


class TreeGood(unittest.TestCase):
    """5.1"""

    def test_some(self):
        for tree in ((1, ()), (2, ((0, 1),)), path_web(3), PATH4, STAR4, TREE6, path_web(6)):
            self.assertIs(tree_good(tree), True)

    def test_against_the_words(self):
        for web in many_webs():
            self.assertIs(tree_good(web), slow_tree(web))
        for tree in all_trees():
            self.assertIs(tree_good(tree), True)

    def test_as_many_ties_as_a_tree_but_in_pieces(self):
        for many in (4, 5, 6):
            for ties in itertools.combinations(full_web(many)[1], many - 1):
                self.assertIs(tree_good((many, ties)), (many, ties) in trees_of(many))

    def test_a_way_between_any_two_but_too_many_ties(self):
        for many in range(3, 7):
            self.assertIs(tree_good(ring_web(many)), False)
            self.assertIs(tree_good(full_web(many)), False)

    def test_whatever_is_handed_in(self):
        for thing in NO_TREES:
            self.assertIs(tree_good(thing), False, thing)
        for tree in ((1, ()), (2, ((0, 1),)), path_web(3), PATH4, TREE6):
            for thing in spoilt(tree):
                self.assertIs(tree_good(thing), repr(thing) in tree_texts(), thing)


class Words(unittest.TestCase):
    """5.1"""

    def test_some(self):
        self.assertTrue(same_kind(word_of(path_web(3)), (1,)))
        self.assertTrue(same_kind(word_of(PATH4), (1, 2)))
        self.assertTrue(same_kind(word_of(STAR4), (0, 0)))
        self.assertTrue(same_kind(word_of(TREE6), (3, 3, 3, 4)))
        self.assertTrue(same_kind(tree_by(6, (3, 3, 3, 4)), TREE6))
        self.assertTrue(same_kind(tree_by(3, (2,)), (3, ((0, 2), (1, 2)))))
        self.assertTrue(same_kind(tree_by(4, (0, 0)), STAR4))

    def test_words_of_all_trees(self):
        for tree in worded_trees():
            self.assertTrue(same_kind(word_of(tree), slow_word(tree)))

    def test_each_word_is_that_of_just_one_tree(self):
        for many in range(3, 7):
            words = list(itertools.product(range(many), repeat=many - 2))
            trees = [tree_by(many, word) for word in words]
            self.assertEqual(sorted(trees), list(trees_of(many)))
            for tree, word in zip(trees, words):
                self.assertTrue(same_kind(word_of(tree), word))
                self.assertEqual(slow_word(tree), word)

    def test_what_is_no_tree_of_three_places_or_more(self):
        for thing in NO_TREES + [(1, ()), (2, ((0, 1),))]:
            with self.assertRaises(NoTree, msg=repr(thing)):
                word_of(thing)
        for web in many_webs():
            if not slow_tree(web):
                with self.assertRaises(NoTree):
                    word_of(web)
        for thing in spoilt(PATH4):
            if not is_one_of(thing, trees_of(3) + trees_of(4)):
                with self.assertRaises(NoTree, msg=repr(thing)):
                    word_of(thing)

    def test_what_is_no_number_goes_ahead(self):
        for many in NO_THINGS + [0, 1, 2, 7, 8, -3, "3", [3], (3,), {3: 3}, None, True, (4, ())]:
            for word in ((), (0,), (0, 0), None, [0], "x", (9,)):
                with self.assertRaises(NoNumber, msg=repr(many)):
                    tree_by(many, word)

    def test_what_is_no_word(self):
        wrong = [(), (0,), (0, 0, 0), [0, 0], (0, 4), (-1, 0), (0, True), (False, 0), (0, None), (0, "0"), ((0, 0),),
                 (0, (0,)), "00", {0: 0, 1: 0}, (0, [0]), (0, 10 ** 39), 0, 1, (0, -4)]
        for thing in NO_THINGS + wrong + spoilt((1, 0)):
            if not is_one_of(thing, itertools.product(range(4), repeat=2)):
                with self.assertRaises(NoTree, msg=repr(thing)):
                    tree_by(4, thing)
        for many in range(3, 7):
            for thing in ((0,) * (many - 1), (0,) * (many - 3), (many,) * (many - 2), (0,) * (many - 3) + (True,)):
                with self.assertRaises(NoTree, msg=repr((many, thing))):
                    tree_by(many, thing)


class TreeRoots(unittest.TestCase):
    """5.2"""

    def check(self, web):
        trees = [root for root in slow_roots(web) if slow_tree(root)]
        self.assertTrue(same_kind(tree_roots(web), trees), web)
        self.assertTrue(same_kind(first_tree(web), min(trees, default=None)), web)
        return len(trees)

    def test_some(self):
        self.assertTrue(same_kind(tree_roots(full_web(3)), [
            (3, ((0, 1), (0, 2))), (3, ((0, 1), (1, 2))), (3, ((0, 2), (1, 2)))]))
        self.assertTrue(same_kind(first_tree(full_web(3)), (3, ((0, 1), (0, 2)))))
        self.assertEqual(tree_roots(two_step(PATH4)), [PATH4, (4, ((0, 2), (1, 2), (1, 3)))])
        self.assertEqual(tree_roots(two_step(TREE6)), [TREE6, (6, ((0, 4), (1, 4), (2, 4), (3, 4), (3, 5)))])

    def test_one_and_two_places(self):
        self.assertTrue(same_kind(tree_roots((1, ())), [(1, ())]))
        self.assertTrue(same_kind(first_tree((1, ())), (1, ())))
        self.assertTrue(same_kind(tree_roots((2, ((0, 1),))), [(2, ((0, 1),))]))

    def test_none_though_there_are_roots(self):
        for web in ((2, ()), (6, ()), (3, ((0, 1),)), (6, slow_two_step(ring_web(6))[1])):
            self.assertGreater(roots_many(web), 0)
            self.assertTrue(same_kind(tree_roots(web), []))
            self.assertIsNone(first_tree(web))

    def test_more_than_twelve_ties(self):
        stars = [(6, tuple(sorted(tuple(sorted((middle, end))) for end in range(6) if end != middle)))
                 for middle in range(6)]
        self.assertTrue(same_kind(tree_roots(full_web(6)), sorted(stars)))
        self.assertTrue(same_kind(first_tree(full_web(6)), stars[0]))
        for many in (12, 13, 14):
            for ties in list(itertools.combinations(full_web(6)[1], many))[::31]:
                self.check((6, ties))

    def test_small_webs(self):
        for web in small_webs() + webs_of(5):
            self.check(web)

    def test_six_places(self):
        webs = webs_of(6)[::83] + sorted(roots_table(6))[::61] + [slow_two_step(tree) for tree in trees_of(6)[::23]]
        self.assertGreater(sum(self.check(web) for web in webs), 50)


class Bars(unittest.TestCase):
    """5.3"""

    def test_apart(self):
        for a, b in itertools.product(range(6), repeat=2):
            pieces = {0: 0, 4: 0, 1: 1, 2: 1, 5: 1, 3: 3}
            self.assertIs(bar_good(APART, ("apart", a, b)), pieces[a] != pieces[b])
        self.assertIs(bar_good((2, ()), ("apart", 1, 0)), True)
        self.assertIs(bar_good((1, ()), ("apart", 0, 0)), False)
        self.assertIs(bar_good(PATH4, ("apart", 0, 3)), False)

    def test_rings_of_four_five_and_six(self):
        for many in (4, 5, 6):
            web = ring_web(many)
            ring = tuple(range(many))
            self.assertIs(bar_good(web, ("ring", ring)), True)
            self.assertIs(bar_good(web, ("ring", ring[::-1])), True)
            self.assertIs(bar_good(web, ("ring", ring[2:] + ring[:2])), True)
            self.assertIs(bar_good(web, ("ring", ring[1:] + ring[:1] + ring[1:2])), False)
            self.assertIs(bar_good(web, ("ring", ring[:-1])), False)
            self.assertIs(bar_good(web, ("ring", (1, 0) + ring[2:])), False)
            self.assertIs(bar_good((many, tuple(sorted(web[1] + ((0, 2),)))), ("ring", ring)), False)
            self.assertIs(bar_good((many, tuple(sorted(web[1] + ((1, 3),)))), ("ring", ring)), False)
            self.assertIs(bar_good((many, web[1][1:]), ("ring", ring)), False)
            self.assertEqual(bar_of(web)[0], "ring")

    def test_a_ring_of_three_is_no_bar(self):
        self.assertIs(bar_good(full_web(3), ("ring", (0, 1, 2))), False)
        self.assertIs(bar_good(full_web(6), ("ring", (0, 1, 2))), False)

    def test_a_ring_of_four_in_a_greater_web(self):
        web = (6, ((0, 1), (0, 3), (0, 4), (1, 2), (1, 4), (2, 3), (3, 5)))
        self.assertIs(bar_good(web, ("ring", (0, 1, 2, 3))), True)
        self.assertIs(bar_good(web, ("ring", (4, 1, 2, 3, 0))), False)

    def test_all_orders_of_places_against_the_words(self):
        for web in small_webs()[::2] + webs_of(5)[::29] + webs_of(6)[::3001]:
            many = web[0]
            bars = set(slow_bars(web))
            things = [("apart", a, b) for a, b in itertools.product(range(-1, many + 1), repeat=2)]
            things += [("ring", ring) for size in range(many + 1) for ring in itertools.permutations(range(many), size)]
            things += [("ring", ring) for ring in itertools.product(range(many), repeat=4)]
            for thing in things:
                self.assertIs(bar_good(web, thing), thing in bars, (web, thing))

    def test_some_bar_or_none(self):
        kinds = set()
        for web in many_webs() + webs_of(6)[5::53]:
            bars = slow_bars(web)
            bar = bar_of(web)
            kinds.add(bar if bar is None else (bar[0], len(bar[1]) if bar[0] == "ring" else 2))
            self.assertTrue(is_one_of(bar, bars or [None]), (web, bar))
            if bars:
                self.assertIs(bar_good(web, bar), True)
        self.assertLessEqual({None, ("apart", 2), ("ring", 4), ("ring", 5)}, kinds)

    def test_no_bar(self):
        for web in ((1, ()), (2, ((0, 1),)), full_web(3), full_web(6), path_web(6), STAR4):
            self.assertIsNone(bar_of(web))
        self.assertTrue(is_one_of(bar_of((2, ())), [("apart", 0, 1), ("apart", 1, 0)]))

    def test_no_bar_and_no_tree_root_all_the_same(self):
        for web in (path_web(3), path_web(6), STAR4):
            self.assertIsNone(bar_of(web))
            self.assertEqual(tree_roots(web), [])

    def test_a_web_with_a_bar_has_no_tree_root(self):
        barred = 0
        for web in small_webs() + webs_of(5) + webs_of(6)[::101]:
            if bar_of(web) is not None:
                barred += 1
                self.assertEqual(tree_roots(web), [])
        self.assertGreater(barred, 500)

    def test_wrong_things(self):
        for web, bar in ((APART, ("apart", 0, 1)), (APART, ("apart", 3, 0)), ((2, ()), ("apart", 0, 1)),
                         (ring_web(4), ("ring", (0, 1, 2, 3))), (ring_web(6), ("ring", (5, 0, 1, 2, 3, 4)))):
            bars = slow_bars(web)
            self.assertIs(bar_good(web, bar), True)
            for thing in spoilt(bar):
                self.assertIs(bar_good(web, thing), is_one_of(thing, bars), thing)

    def test_whatever_is_handed_in(self):
        ring = (0, 1, 2, 3)
        wrong = [(), ("apart",), ("apart", 0), ("apart", 0, 4, 5), ("apart", (0, 4)), ["apart", 0, 4], ("ring",),
                 ("ring",) + ring, ("ring", list(ring)), ["ring", ring], ("ring", ring, ring), ("ring", (ring,)),
                 ("ring", (0, True, 2, 3)), ("ring", (False, 1, 2, 3)), ("apart", False, 4), ("apart", 0, "4"), ring,
                 ("ring", ring + (0,)), ("ring", ring + ring), ("ring", "0123"), ("ring", {0: 1, 1: 2, 2: 3, 3: 0}),
                 ("ring", None), ("apart", None, None), ("rings", ring), ("Apart", 0, 4), ("ring", (0, 1, 2, -1)),
                 ("ring", (0, 1, 2, 10 ** 39)), nested(("ring", ring), 17), ("ring", nested(ring, 18)), "ring", "apart",
                 ("ring", (0,) * 900), ("apart", 0, -1), ("apart", 0, 6), ("apart", 0, 10 ** 39), ("ring", ())]
        web = (6, ((0, 1), (0, 3), (1, 2), (2, 3)))
        self.assertIs(bar_good(web, ("ring", ring)), True)
        self.assertIs(bar_good(web, ("apart", 0, 4)), True)
        for thing in NO_THINGS + wrong:
            for one in (web, (1, ()), full_web(6)):
                self.assertIs(bar_good(one, thing), False, thing)


class AlikeTrees(unittest.TestCase):
    """5.4"""

    def test_some(self):
        self.assertTrue(same_kind(alike_trees(PATH4, PATH4), (0, 1, 2, 3)))
        self.assertTrue(same_kind(alike_trees(PATH4, (4, ((0, 2), (0, 3), (1, 2)))), (1, 2, 0, 3)))
        self.assertTrue(same_kind(alike_trees(STAR4, (4, ((0, 3), (1, 3), (2, 3)))), (3, 0, 1, 2)))
        self.assertIsNone(alike_trees(PATH4, STAR4))

    def test_one_and_two_places(self):
        self.assertTrue(same_kind(alike_trees((1, ()), (1, ())), (0,)))
        self.assertTrue(same_kind(alike_trees((2, ((0, 1),)), (2, ((0, 1),))), (0, 1)))

    def test_another_number_of_places(self):
        for one, other in itertools.permutations(range(1, 7), 2):
            self.assertIsNone(alike_trees(path_web(one), path_web(other)))

    def test_the_first_renaming(self):
        pairs = [pair for many in (1, 2, 3, 4) for pair in itertools.product(trees_of(many), repeat=2)]
        pairs += itertools.product(trees_of(5)[::6], trees_of(5)[::5])
        pairs += itertools.product(trees_of(6)[::101], trees_of(6)[::83])
        unlike = 0
        for one, other in pairs:
            names = slow_alike(one, other)
            self.assertTrue(same_kind(alike_trees(one, other), names))
            unlike += names is None
            if names is not None:
                self.assertEqual(renamed(one, alike_trees(one, other)), other)
        self.assertGreater(unlike, 50)

    def test_what_is_no_tree(self):
        for thing in NO_TREES:
            for one, other in ((thing, PATH4), (PATH4, thing), (thing, thing), (thing, (1, ())), ((1, ()), thing)):
                with self.assertRaises(NoTree, msg=repr((one, other))):
                    alike_trees(one, other)
        for thing in spoilt(PATH4):
            if repr(thing) not in tree_texts():
                with self.assertRaises(NoTree, msg=repr(thing)):
                    alike_trees(PATH4, thing)
                with self.assertRaises(NoTree, msg=repr(thing)):
                    alike_trees(thing, PATH4)


class So(unittest.TestCase):
    """5.5"""

    def test_any_two_tree_roots_of_one_web_are_alike(self):
        pairs = 0
        for web in sorted({slow_two_step(tree) for tree in all_trees()})[::2]:
            trees = tree_roots(web)
            for one, other in list(itertools.product(trees, repeat=2))[:20]:
                self.assertIsNotNone(alike_trees(one, other))
                pairs += 1
        self.assertGreater(pairs, 500)

    def test_a_tree_is_a_tree_root_of_its_two_step_web(self):
        for tree in all_trees()[:150] + all_trees()[150::7]:
            self.assertIn(tree, tree_roots(two_step(tree)))

    def test_the_two_step_web_of_a_tree_has_no_bar(self):
        for tree in all_trees():
            self.assertIsNone(bar_of(two_step(tree)))


if __name__ == "__main__":
    unittest.main()
