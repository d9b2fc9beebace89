"""Points 7.1 to 7.4: rootwebs/rings.py."""

import itertools
import unittest

from rootwebs.errors import NoNumber
from rootwebs.looks import pieces_of
from rootwebs.mates import fewest_mate
from rootwebs.rings import (
    first_free, first_ring, free_many, free_roots, least_ring, ring_good, spare_ties, thinned,
)
from rootwebs.roots import all_roots, fewest_root, first_root, roots_many
from rootwebs.trees import tree_roots
from rootwebs.webs import two_step
from tests.helper import (
    NO_THINGS, fields_of_too_great, full_web, is_one_of, many_webs, nested, path_web, ring_web, roots_table, same_kind,
    slow_rings, slow_roots, slow_two_step, small_webs, spoilt, trees_of, webs_of, webs_to_try,
)

FULL3 = full_web(3)
FULL4 = full_web(4)
FULL5 = full_web(5)
FULL6 = full_web(6)
OF_K = (free_roots, free_many, first_free)
NO_NUMBERS = NO_THINGS + [0, 1, 7, 8, -2, -6, "2", "6", [2], (2,), {2: 2}, None, True, False, nested(2, 19)]


def slow_least(web):
    return min((len(ring) for ring in slow_rings(web)), default=None)


def slow_free(web, k):
    return [root for root in slow_roots(web) if all(len(ring) > k for ring in slow_rings(root))]


def without(web, tie):
    return (web[0], tuple(one for one in web[1] if one != tie))


def slow_spare(web):
    return tuple(tie for tie in web[1] if slow_two_step(without(web, tie)) == slow_two_step(web))


def slow_thinned(web):
    for tie in web[1]:
        if tie in slow_spare(web):
            web = without(web, tie)
    return web


class Rings(unittest.TestCase):
    """7.1"""

    def test_rings_of_three_to_six(self):
        for many in range(3, 7):
            web = ring_web(many)
            ring = tuple(range(many))
            for at in range(many):
                self.assertIs(ring_good(web, ring[at:] + ring[:at]), True)
                self.assertIs(ring_good(web, ring[at::-1] + ring[:at:-1]), True)
            self.assertIs(ring_good(web, ring + (0,)), False)
            self.assertIs(ring_good(web, ring[:-1]), False)
            self.assertIs(ring_good(web, ring + ring), False)
            self.assertIs(ring_good(path_web(many), ring), False)
            self.assertTrue(same_kind(least_ring(web), many))
            self.assertTrue(same_kind(first_ring(web), ring))

    def test_two_places_are_no_ring(self):
        for web in ((2, ((0, 1),)), FULL3, FULL6):
            for thing in ((0, 1), (0, 1, 0), (0, 1, 0, 1), (0,), (), (0, 0, 0)):
                self.assertIs(ring_good(web, thing), False)

    def test_a_ring_may_have_other_ties_across(self):
        self.assertIs(ring_good(FULL4, (0, 1, 2, 3)), True)
        self.assertIs(ring_good(FULL6, (5, 2, 0, 1, 3, 4)), True)

    def test_without_rings(self):
        for web in ((1, ()), (2, ()), (2, ((0, 1),)), (6, ()), path_web(6), (6, ((0, 3), (1, 3), (2, 5)))):
            self.assertIsNone(least_ring(web))
            self.assertIsNone(first_ring(web))
        for tree in trees_of(6)[::31]:
            self.assertIsNone(least_ring(tree))
            self.assertIsNone(first_ring(tree))

    def test_the_shortest_goes_ahead_of_the_first_as_tuples_compare(self):
        web = (6, ((0, 1), (0, 2), (1, 2), (1, 3), (2, 3)))
        self.assertTrue(same_kind(first_ring(web), (0, 1, 2)))
        web = (6, ((0, 1), (0, 3), (1, 2), (2, 3), (3, 4), (3, 5), (4, 5)))
        self.assertTrue(same_kind(least_ring(web), 3))
        self.assertTrue(same_kind(first_ring(web), (3, 4, 5)))
        self.assertTrue(same_kind(first_ring(FULL6), (0, 1, 2)))
        self.assertTrue(same_kind(first_ring((4, ((0, 2), (0, 3), (1, 2), (1, 3)))), (0, 2, 1, 3)))

    def test_all_orders_of_places(self):
        for web in small_webs() + webs_of(5)[::37] + webs_of(6)[::3001]:
            rings = set(slow_rings(web))
            things = [places for size in range(web[0] + 1) for places in itertools.permutations(range(web[0]), size)]
            things += itertools.product(range(-1, web[0] + 1), repeat=3)
            things += itertools.product(range(web[0]), repeat=4)
            for thing in things:
                self.assertIs(ring_good(web, thing), thing in rings, (web, thing))

    def test_shortest_rings_of_many_webs(self):
        found = set()
        for web in many_webs() + [ring_web(many) for many in range(3, 7)]:
            least = slow_least(web)
            found.add(least)
            self.assertTrue(same_kind(least_ring(web), least))
            first = min((ring for ring in slow_rings(web) if len(ring) == least), default=None)
            self.assertTrue(same_kind(first_ring(web), first))
        self.assertEqual(found, {None, 3, 4, 5, 6})

    def test_wrong_things(self):
        for web, ring in ((FULL3, (0, 1, 2)), (ring_web(4), (1, 2, 3, 0)), (FULL6, (0, 1, 2, 3, 4, 5))):
            rings = slow_rings(web)
            self.assertIs(ring_good(web, ring), True)
            for thing in spoilt(ring):
                self.assertIs(ring_good(web, thing), is_one_of(thing, rings), thing)
        for thing in NO_THINGS + [(), [0, 1, 2], (0, True, 2), (False, 1, 2), (0, 1, "2"), (0, 1, None), ((0, 1, 2),),
                                  (0, 1, (2,)), "012", {0: 1, 1: 2, 2: 0}, (0, 1, 3), (0, 1, -1), (0, 1, 10 ** 39),
                                  ("ring", (0, 1, 2)), nested((0, 1, 2), 19), (0, 1, [2]), (0, 1, {}), 3, "ring"]:
            for web in (FULL3, (1, ()), (2, ((0, 1),))):
                self.assertIs(ring_good(web, thing), False, thing)


class FreeRoots(unittest.TestCase):
    """7.2"""

    def test_some(self):
        stars = [(3, ((0, 1), (0, 2))), (3, ((0, 1), (1, 2))), (3, ((0, 2), (1, 2)))]
        for k in (3, 4, 5, 6):
            self.assertTrue(same_kind(free_roots(FULL3, k), stars))
            self.assertTrue(same_kind(free_many(FULL3, k), 3))
            self.assertTrue(same_kind(first_free(FULL3, k), stars[0]))
        self.assertTrue(same_kind(free_roots(FULL3, 2), sorted(stars + [FULL3])))
        self.assertTrue(same_kind(free_many(FULL3, 2), 4))

    def test_rings_of_just_so_many_places(self):
        # The ring of five ties all five places in two steps, as the ring of four does its four.
        self.assertIn(ring_web(5), free_roots(FULL5, 4))
        self.assertNotIn(ring_web(5), free_roots(FULL5, 5))
        self.assertIn(ring_web(4), free_roots(FULL4, 3))
        self.assertNotIn(ring_web(4), free_roots(FULL4, 4))
        web = slow_two_step(ring_web(6))
        self.assertEqual(len(web[1]), 12)
        self.assertIn(ring_web(6), free_roots(web, 5))
        self.assertNotIn(ring_web(6), free_roots(web, 6))

    def test_no_ties_and_no_roots(self):
        for k in range(2, 7):
            for many in range(1, 7):
                self.assertTrue(same_kind(free_roots((many, ()), k), [(many, ())]))
                self.assertTrue(same_kind(free_many((many, ()), k), 1))
                self.assertTrue(same_kind(first_free((many, ()), k), (many, ())))
            for web in (path_web(3), path_web(6)):
                self.assertTrue(same_kind(free_roots(web, k), []))
                self.assertTrue(same_kind(free_many(web, k), 0))
                self.assertIsNone(first_free(web, k))

    def test_against_a_search_of_all_webs(self):
        unlike = 0
        for web in webs_to_try()[::5]:
            for k in range(2, 7):
                free = slow_free(web, k)
                self.assertTrue(same_kind(free_many(web, k), len(free)))
                self.assertTrue(same_kind(first_free(web, k), min(free, default=None)))
                if len(free) <= 300:
                    self.assertTrue(same_kind(free_roots(web, k), free))
                unlike += bool(free) and free[0] != slow_roots(web)[0]
        # Else the first free root would never be told from the first root.
        self.assertGreater(unlike, 0)

    def test_more_than_300(self):
        for web in (FULL5, (6, FULL5[1])):
            self.assertEqual(fields_of_too_great(self, free_roots, web, 2), (368, 300))
            self.assertEqual(free_many(web, 2), 368)
            self.assertEqual(first_free(web, 2), slow_roots(web)[0])
            # There are more roots, but not more of these.
            for k in range(3, 7):
                self.assertTrue(same_kind(free_roots(web, k), slow_free(web, k)))

    def test_too_many_ties_go_ahead_of_no_number(self):
        for many in (13, 14, 15):
            for ties in list(itertools.combinations(FULL6[1], many))[::7]:
                for k in [2, 3, 6, 1, 7, None, True, "2", [2], (2,), {}, 10 ** 39]:
                    for call in OF_K:
                        self.assertEqual(fields_of_too_great(self, call, (6, ties), k), (many, 12))

    def test_twelve_ties(self):
        rooted = [web for web in roots_table(6) if len(web[1]) == 12]
        for web in rooted[::7]:
            for k in (2, 6):
                self.assertEqual(free_roots(web, k), slow_free(web, k))

    def test_no_number_goes_ahead_of_too_many_roots(self):
        for web in (FULL5, (6, FULL5[1]), FULL3, (1, ()), path_web(3)):
            for k in NO_NUMBERS:
                for call in OF_K:
                    with self.assertRaises(NoNumber, msg=repr(k)):
                        call(web, k)


class SpareTies(unittest.TestCase):
    """7.3"""

    def test_some(self):
        self.assertTrue(same_kind(spare_ties(FULL3), FULL3[1]))
        self.assertTrue(same_kind(thinned(FULL3), (3, ((0, 2), (1, 2)))))
        self.assertTrue(same_kind(spare_ties(path_web(4)), ()))
        self.assertTrue(same_kind(thinned(path_web(4)), path_web(4)))
        web = (4, ((0, 1), (0, 2), (1, 2), (2, 3)))
        self.assertTrue(same_kind(spare_ties(web), ((0, 1),)))
        self.assertTrue(same_kind(thinned(web), (4, ((0, 2), (1, 2), (2, 3)))))

    def test_no_ties_and_two_places(self):
        for web in ((1, ()), (6, ()), (2, ()), (2, ((0, 1),))):
            self.assertTrue(same_kind(spare_ties(web), ()))
            self.assertTrue(same_kind(thinned(web), web))

    def test_all_ties(self):
        # More than twelve ties are no matter here.
        for many in range(3, 7):
            web = full_web(many)
            self.assertTrue(same_kind(spare_ties(web), web[1]))
            self.assertTrue(same_kind(thinned(web), slow_thinned(web)))

    def test_against_the_words(self):
        for web in many_webs():
            self.assertTrue(same_kind(spare_ties(web), slow_spare(web)))
            self.assertTrue(same_kind(thinned(web), slow_thinned(web)))

    def test_looked_at_from_the_first_on(self):
        unlike = 0
        for web in webs_of(5):
            backward = web
            for tie in reversed(web[1]):
                if tie in slow_spare(backward):
                    backward = without(backward, tie)
            unlike += backward != thinned(web)
        self.assertGreater(unlike, 100)

    def test_the_same_two_step_web_and_no_spare_tie(self):
        for web in many_webs() + webs_of(6)[7::101]:
            left = thinned(web)
            self.assertEqual(two_step(left), two_step(web))
            self.assertTrue(same_kind(spare_ties(left), ()))
            self.assertLessEqual(set(left[1]), set(web[1]))
            self.assertEqual(thinned(left), left)


class So(unittest.TestCase):
    """7.4"""

    def test_by_six_those_without_rings(self):
        for web in webs_to_try()[::3]:
            ringless = [root for root in slow_roots(web) if least_ring(root) is None]
            self.assertEqual(free_roots(web, 6), ringless)

    def test_by_a_greater_k_never_more(self):
        fewer = set()
        for web in webs_to_try()[::3]:
            many = [free_many(web, k) for k in range(2, 7)]
            self.assertEqual(many, sorted(many, reverse=True))
            fewer |= {k for k in range(3, 7) if many[k - 2] < many[k - 3]}
        # Each k tells something of its own: of some web there are fewer than by one less.
        self.assertEqual(fewer, {3, 4, 5, 6})

    def test_by_two_all_roots(self):
        for web in webs_to_try()[1::4]:
            self.assertEqual(free_many(web, 2), roots_many(web))
            self.assertEqual(first_free(web, 2), first_root(web))
            if roots_many(web) <= 300:
                self.assertEqual(free_roots(web, 2), all_roots(web))

    def test_by_a_greater_k_some_of_those_by_a_lesser_one(self):
        for web in webs_to_try()[::7]:
            if roots_many(web) <= 300:
                for k in range(2, 6):
                    lesser = free_roots(web, k)
                    self.assertEqual([root for root in lesser if root in free_roots(web, k + 1)], free_roots(web, k + 1))

    def test_by_six_those_of_a_web_in_one_piece_are_its_tree_roots(self):
        for web in webs_to_try()[::2]:
            if len(pieces_of(web)) == 1:
                self.assertEqual(free_roots(web, 6), tree_roots(web))

    def test_a_mate_with_fewest_ties_has_no_spare_tie(self):
        for web in many_webs():
            if len(two_step(web)[1]) <= 12:
                self.assertEqual(spare_ties(fewest_mate(web)), ())

    def test_a_root_with_fewest_ties_has_no_spare_tie(self):
        for web in webs_to_try():
            roots = slow_roots(web)
            fewest = min((len(root[1]) for root in roots), default=0)
            for root in [root for root in roots if len(root[1]) == fewest]:
                self.assertEqual(spare_ties(root), ())
            if roots:
                self.assertEqual(spare_ties(fewest_root(web)), ())


if __name__ == "__main__":
    unittest.main()
