"""Points 8.1 to 8.4: rootwebs/steps.py."""

import itertools
import unittest

from rootwebs.errors import NoNumber, TooGreat
from rootwebs.looks import root_good
from rootwebs.roots import all_roots, first_root, roots_many
from rootwebs.steps import (
    all_by, chain_good, first_by, first_chain, root_by_good, roots_by_many, steps_list, steps_of,
)
from rootwebs.webs import is_still, steps_web, still_from
from tests.helper import (
    NO_THINGS, by_table, fields_of_too_great, full_web, is_one_of, many_webs, nested, path_web, refused, ring_web,
    roots_table, same_kind, slow_by, slow_fars, slow_roots, slow_steps, small_webs, spoilt, trees_of, webs_of,
    webs_to_try,
)

FULL3 = full_web(3)
FULL4 = full_web(4)
FULL5 = full_web(5)
FULL5_AND_ONE = (6, FULL5[1])
FULL6 = full_web(6)
TWELVE = (6, FULL6[1][:12])
THIRTEEN = (6, FULL6[1][:13])
OF_K = (roots_by_many, first_by, all_by)
NO_NUMBERS = [thing for thing in NO_THINGS if thing not in ((), [])] + [
    0, 6, 7, -1, -2, -5, "1", "2", "5", [], [1], [2], (), (1,), (2,), {1: 1}, {2: 2}, nested(2, 19), 10 ** 39 + 2,
]


def webs_by():
    """All webs of one to five places, all of six with a root by 3, 4 or 5, and some others, of at most twelve ties."""
    rooted = {web for k in (3, 4, 5) for web in by_table(6)[k]} | set(sorted(by_table(6)[2])[::7])
    return [web for web in small_webs() + webs_of(5) + webs_of(6)[::97] + sorted(rooted) if len(web[1]) <= 12]


def slow_chains(web, many):
    """All chains of so many webs, rising."""
    if many == 0:
        return [()]
    return [(root,) + rest for root in slow_roots(web) for rest in slow_chains(root, many - 1)]


class RootsBy(unittest.TestCase):
    """8.1"""

    def test_three_places_all_tied(self):
        roots = [(3, ((0, 1), (0, 2))), FULL3, (3, ((0, 1), (1, 2))), (3, ((0, 2), (1, 2)))]
        self.assertTrue(same_kind(all_by(FULL3, 1), [FULL3]))
        self.assertTrue(same_kind(roots_by_many(FULL3, 1), 1))
        self.assertTrue(same_kind(first_by(FULL3, 1), FULL3))
        for k in range(2, 6):
            self.assertTrue(same_kind(all_by(FULL3, k), roots))
            self.assertTrue(same_kind(roots_by_many(FULL3, k), 4))
            self.assertTrue(same_kind(first_by(FULL3, k), roots[0]))
            self.assertIs(root_by_good(FULL3, k, roots[3]), True)

    def test_the_path_of_five_and_more_steps(self):
        path = path_web(5)
        for k in range(1, 6):
            for other in range(1, 6):
                good = min(k, 4) == min(other, 4)
                self.assertIs(root_by_good(steps_web(path, k), other, path), good)
        self.assertEqual(first_by(steps_web(path, 3), 3), min(slow_by(steps_web(path, 3), 3)))
        self.assertIn(path, all_by(steps_web(path, 3), 3))

    def test_one_place_and_no_ties(self):
        for many in range(1, 7):
            web = (many, ())
            for k in range(1, 6):
                self.assertTrue(same_kind(all_by(web, k), [web]))
                self.assertTrue(same_kind(roots_by_many(web, k), 1))
                self.assertTrue(same_kind(first_by(web, k), web))
                self.assertIs(root_by_good(web, k, web), True)

    def test_there_is_none(self):
        for web in (path_web(3), path_web(6), ring_web(5)):
            for k in range(2, 6):
                self.assertTrue(same_kind(all_by(web, k), []))
                self.assertTrue(same_kind(roots_by_many(web, k), 0))
                self.assertIsNone(first_by(web, k))

    def test_against_a_search_of_all_webs(self):
        for web in webs_by():
            for k in range(1, 6):
                roots = slow_by(web, k)
                self.assertTrue(same_kind(roots_by_many(web, k), len(roots)))
                self.assertTrue(same_kind(first_by(web, k), min(roots, default=None)))
                if len(roots) <= 300:
                    self.assertTrue(same_kind(all_by(web, k), list(roots)))

    def test_each_number_has_roots_of_its_own(self):
        unlike = {(j, k) for j, k in itertools.combinations(range(1, 6), 2)
                  for web in webs_by() if slow_by(web, j) != slow_by(web, k)}
        # By 4 and by 5 only webs of more than twelve ties differ: six places, two of them five ties apart.
        self.assertEqual(unlike, set(itertools.combinations(range(1, 6), 2)) - {(4, 5)})
        web = slow_steps(path_web(6), 4)
        self.assertEqual(len(web[1]), 14)
        self.assertIs(root_by_good(web, 4, path_web(6)), True)
        self.assertIs(root_by_good(web, 5, path_web(6)), False)
        self.assertIs(root_by_good(FULL6, 4, path_web(6)), False)
        self.assertIs(root_by_good(FULL6, 5, path_web(6)), True)

    def test_more_than_300(self):
        for web in (FULL5, FULL5_AND_ONE):
            for k, many in ((2, 368), (3, 668), (4, 728), (5, 728)):
                self.assertEqual(len(slow_by(web, k)), many)
                self.assertEqual(fields_of_too_great(self, all_by, web, k), (many, 300))
                self.assertTrue(same_kind(roots_by_many(web, k), many))
                self.assertEqual(first_by(web, k), slow_by(web, k)[0])
            self.assertEqual(all_by(web, 1), [web])

    def test_as_many_as_there_are_below_300(self):
        # No web has from 39 to 367 roots by any k, so these are the nearest below the limit.
        for k, many in ((2, 26), (3, 38), (4, 38), (5, 38)):
            most = [web for web in webs_by() if len(slow_by(web, k)) == many]
            self.assertTrue(most)
            for web in most:
                self.assertEqual(len(all_by(web, k)), many)

    def test_twelve_ties(self):
        rooted = [web for web in roots_table(6) if len(web[1]) == 12]
        for web in [TWELVE] + rooted[:20]:
            for k in range(1, 6):
                self.assertEqual(all_by(web, k), list(slow_by(web, k)))

    def test_thirteen_ties_and_more(self):
        for many in (13, 14, 15):
            for ties in itertools.combinations(FULL6[1], many):
                for call in OF_K:
                    for k in (1, 2, 5):
                        self.assertEqual(fields_of_too_great(self, call, (6, ties), k), (many, 12))

    def test_too_many_ties_go_ahead_of_no_number(self):
        for k in NO_NUMBERS:
            for call in OF_K:
                self.assertEqual(fields_of_too_great(self, call, THIRTEEN, k), (13, 12))
                self.assertEqual(fields_of_too_great(self, call, FULL6, k), (15, 12))

    def test_no_number(self):
        # Some of these webs have more than 300 roots: that is told behind what is wrong of the number.
        for web in (FULL5, FULL5_AND_ONE, FULL3, (1, ()), path_web(3), TWELVE):
            for k in NO_NUMBERS:
                for call in OF_K:
                    refused(self, NoNumber, call, web, k)

    def test_no_number_of_what_is_looked_at(self):
        for web in (FULL3, (1, ()), THIRTEEN, FULL6):
            for k in NO_NUMBERS:
                for thing in (web, FULL3, None, [], "x", nested(0, 20)):
                    refused(self, NoNumber, root_by_good, web, k, thing)

    def test_looked_at_over_all_webs(self):
        webs = [web for many in range(1, 5) for web in webs_of(many)]
        for web in small_webs()[::3]:
            for k in range(1, 6):
                roots = slow_by(web, k)
                for other in webs:
                    self.assertIs(root_by_good(web, k, other), other in roots)

    def test_looked_at_with_more_than_twelve_ties(self):
        others = webs_of(6)[::3571]
        for many in (13, 14, 15):
            for ties in itertools.islice(itertools.combinations(FULL6[1], many), 30):
                web = (6, ties)
                for k in range(1, 6):
                    roots = slow_by(web, k)
                    for root in roots[::17]:
                        self.assertIs(root_by_good(web, k, root), True)
                    for other in others:
                        self.assertIs(root_by_good(web, k, other), other in roots)

    def test_wrong_things(self):
        for web, k in ((FULL3, 1), (FULL3, 2), (FULL4, 3), (FULL4, 5), ((1, ()), 1), ((1, ()), 5)):
            roots = slow_by(web, k)
            for root in roots[:2] + roots[-1:]:
                for thing in spoilt(root):
                    self.assertIs(root_by_good(web, k, thing), is_one_of(thing, roots), thing)
        for thing in NO_THINGS + [(True, ()), (1, []), [1, ()], (1, (), ()), (0, ()), (7, ()), ((1, ()),)]:
            for k in range(1, 6):
                self.assertIs(root_by_good((1, ()), k, thing), False, thing)


class Steps(unittest.TestCase):
    """8.2"""

    def test_some(self):
        self.assertTrue(same_kind(steps_of(FULL3), (1, 2, 3, 4, 5)))
        self.assertTrue(same_kind(steps_of(path_web(3)), (1,)))
        self.assertTrue(same_kind(steps_of(slow_steps(path_web(4), 2)), (1, 2)))
        self.assertTrue(same_kind(steps_of(slow_steps(path_web(5), 3)), (1, 2, 3)))
        for many in range(1, 7):
            self.assertTrue(same_kind(steps_of((many, ())), (1, 2, 3, 4, 5)))

    def test_against_a_search_of_all_webs(self):
        found = set()
        for web in webs_by():
            told = steps_of(web)
            found.add(told)
            self.assertTrue(same_kind(told, tuple(k for k in range(1, 6) if slow_by(web, k))))
            self.assertEqual(told[0], 1)
        self.assertEqual(found, {(1,), (1, 2), (1, 2, 3), (1, 2, 3, 4, 5)})

    def test_twelve_and_thirteen_ties(self):
        self.assertEqual(steps_of(TWELVE), tuple(k for k in range(1, 6) if slow_by(TWELVE, k)))
        for many in (13, 14, 15):
            for ties in itertools.combinations(FULL6[1], many):
                self.assertEqual(fields_of_too_great(self, steps_of, (6, ties)), (many, 12))

    def test_list_of_paths(self):
        self.assertTrue(same_kind(steps_list((1, ())), [(1, ())]))
        self.assertTrue(same_kind(steps_list((6, ())), [(6, ())]))
        self.assertTrue(same_kind(steps_list(FULL6), [FULL6]))
        self.assertTrue(same_kind(steps_list((2, ((0, 1),))), [(2, ((0, 1),))]))
        self.assertTrue(same_kind(steps_list(path_web(3)), [path_web(3), FULL3]))
        for many in range(2, 7):
            told = steps_list(path_web(many))
            self.assertTrue(same_kind(told, [slow_steps(path_web(many), k) for k in range(1, many)]))

    def test_list_of_many_webs(self):
        # More than twelve ties are no matter here.
        for web in many_webs() + [(6, ties) for ties in itertools.combinations(FULL6[1], 13)] + list(trees_of(6))[::7]:
            farthest = max(max(far or 0 for far in row) for row in slow_fars(web))
            told = steps_list(web)
            self.assertTrue(same_kind(told, [slow_steps(web, k) for k in range(1, max(farthest, 1) + 1)]))
            self.assertEqual(len(told), still_from(web))
            self.assertIs(is_still(told[-1]), True)


class Chains(unittest.TestCase):
    """8.3"""

    def test_some(self):
        self.assertTrue(same_kind(first_chain(FULL3, 1), ((3, ((0, 1), (0, 2))),)))
        self.assertTrue(same_kind(first_chain(FULL3, 2), (FULL3, (3, ((0, 1), (0, 2))))))
        self.assertTrue(same_kind(first_chain(FULL3, 3), (FULL3, FULL3, (3, ((0, 1), (0, 2))))))
        self.assertIsNone(first_chain(path_web(3), 1))
        self.assertIsNone(first_chain(path_web(6), 3))
        self.assertIs(chain_good(FULL3, (FULL3, FULL3, path_web(3))), True)
        self.assertIs(chain_good(FULL3, (FULL3, path_web(3), path_web(3))), False)
        self.assertIs(chain_good(FULL3, (path_web(3), FULL3)), False)

    def test_no_ties(self):
        for many in range(1, 7):
            web = (many, ())
            for size in range(5):
                self.assertIs(chain_good(web, (web,) * size), 1 <= size <= 3)
            for size in (1, 2, 3):
                self.assertTrue(same_kind(first_chain(web, size), (web,) * size))

    def test_the_first_of_all_chains(self):
        unlike = 0
        for web in many_webs() + sorted(roots_table(6))[::5]:
            if len(web[1]) > 12 or len(slow_roots(web)) > 300:
                continue
            for many in (1, 2, 3):
                told = first_chain(web, many)
                first = min(slow_chains(web, many), default=None)
                self.assertTrue(same_kind(told, first))
                self.assertTrue(told is None or chain_good(web, told))
                unlike += told is not None and told[0] != min(slow_roots(web))
        # Else the test would not tell the first chain from one that begins with the first root.
        self.assertGreater(unlike, 50)

    def test_the_first_where_there_are_more_than_300_roots(self):
        for web in (FULL5, FULL5_AND_ONE):
            for many in (1, 2, 3):
                rooted = [root for root in slow_roots(web) if slow_chains(root, many - 1)]
                first = min(rooted)
                told = first_chain(web, many)
                self.assertEqual(told, (first,) + min(slow_chains(first, many - 1)))
                self.assertIs(chain_good(web, told), True)

    def test_some_webs_have_a_chain_of_one_and_none_of_two(self):
        for web in [web for web in webs_to_try() if slow_roots(web)][::11]:
            for many in (1, 2, 3):
                self.assertIs(first_chain(web, many) is None, not slow_chains(web, many))
        web = slow_steps(path_web(4), 2)
        self.assertIsNotNone(first_chain(web, 1))
        self.assertIsNone(first_chain(web, 2))

    def test_looked_at_over_all_pairs(self):
        for many in (1, 2, 3):
            webs = webs_of(many)
            for web in webs:
                for size in (1, 2, 3):
                    chains = set(slow_chains(web, size))
                    for thing in itertools.product(webs, repeat=size):
                        self.assertIs(chain_good(web, thing), thing in chains)

    def test_looked_at_over_greater_webs(self):
        # More than twelve ties are no matter here.
        webs = sorted(roots_table(5))[::7] + [web for web in roots_table(6) if len(web[1]) > 12][::3] + [FULL6]
        for web in webs:
            for root in slow_roots(web)[::41]:
                self.assertIs(chain_good(web, (root,)), True)
                for further in slow_roots(root)[::29]:
                    self.assertIs(chain_good(web, (root, further)), True)
                    self.assertIs(chain_good(web, (root, further, further)), is_still(further))
                    self.assertIs(chain_good(web, (further, root)), web == root == further)
        self.assertIs(chain_good(FULL6, (FULL6, FULL6, (6, tuple((0, b) for b in range(1, 6))))), True)

    def test_wrong_things(self):
        for web in (FULL3, (1, ()), (2, ((0, 1),))):
            for many in (1, 2, 3):
                chains = [chain for size in (1, 2, 3) for chain in slow_chains(web, size)]
                for thing in spoilt(min(slow_chains(web, many))):
                    self.assertIs(chain_good(web, thing), is_one_of(thing, chains), thing)
        for thing in NO_THINGS + [(), [FULL3], FULL3, (FULL3, None), (FULL3, FULL3, []), ((FULL3,),), (None, FULL3),
                                  (FULL3, FULL4), (FULL4, FULL3), (FULL3, [3, FULL3[1]]), {0: FULL3},
                                  (FULL3,) * 4, (FULL3,) * 900, nested(FULL3, 2), nested(FULL3, 17)]:
            self.assertIs(chain_good(FULL3, thing), False, thing)
        self.assertIs(chain_good((1, ()), ((True, ()), (1, ()))), False)
        self.assertIs(chain_good((1, ()), ((1, ()), (True, ()))), False)

    def test_no_number(self):
        for web in (FULL3, FULL5, (1, ()), path_web(3), TWELVE):
            for many in NO_NUMBERS + [4, 5]:
                refused(self, NoNumber, first_chain, web, many)

    def test_too_many_ties_go_ahead_of_no_number(self):
        for many in NO_NUMBERS + [1, 2, 3, 4]:
            for web in (THIRTEEN, FULL6):
                self.assertEqual(fields_of_too_great(self, first_chain, web, many), (len(web[1]), 12))
        # Some of these have chains all the same, which is looked at and not found.
        with self.assertRaises(TooGreat):
            first_chain(FULL6, 1)
        self.assertIs(chain_good(FULL6, (FULL6,)), True)


class So(unittest.TestCase):
    """8.4"""

    def test_roots_by_one_are_the_web_alone(self):
        for web in webs_by():
            self.assertTrue(same_kind(all_by(web, 1), [web]))
            self.assertEqual(first_by(web, 1), web)
            self.assertEqual(roots_by_many(web, 1), 1)

    def test_roots_by_two_are_its_roots(self):
        for web in webs_by():
            self.assertEqual(roots_by_many(web, 2), roots_many(web))
            self.assertEqual(first_by(web, 2), first_root(web))
            if roots_many(web) <= 300:
                self.assertEqual(all_by(web, 2), all_roots(web))
        for root in webs_of(4):
            for web in webs_of(4)[::7]:
                self.assertIs(root_by_good(web, 2, root), root_good(web, root))

    def test_a_root_by_j_of_a_root_by_k_is_one_by_j_times_k(self):
        tried = {}
        for web in sorted(by_table(4)[2]) + sorted(by_table(5)[2])[::3] + sorted(by_table(6)[2])[::41]:
            if len(web[1]) > 12 or roots_by_many(web, 5) > 300:
                continue
            for j, k in itertools.product(range(1, 6), repeat=2):
                if j * k <= 5:
                    for root in all_by(web, k):
                        for further in all_by(root, j) if roots_by_many(root, j) <= 300 else []:
                            self.assertIs(root_by_good(web, j * k, further), True)
                            tried[j, k] = tried.get((j, k), 0) + 1
        self.assertEqual(len(tried), 10)
        self.assertGreater(min(tried.values()), 50)

    def test_the_last_web_of_a_chain_of_two_is_a_root_by_four(self):
        tried = 0
        for web in [web for web in webs_by() if slow_roots(web)][::2]:
            chain = first_chain(web, 2)
            if chain is not None:
                self.assertIs(root_by_good(web, 4, chain[1]), True)
                tried += 1
        for root, further in slow_chains(FULL5, 2):
            self.assertIs(root_by_good(FULL5, 4, further), True)
        self.assertGreater(tried, 50)

    def test_a_web_with_a_root_by_four_has_a_chain_of_two(self):
        for web in webs_by():
            self.assertIs(first_chain(web, 2) is not None, 4 in steps_of(web))
        for web, roots in by_table(6)[4].items():
            for root in roots[::13]:
                self.assertIs(chain_good(web, (slow_steps(root, 2), root)), True)


if __name__ == "__main__":
    unittest.main()
