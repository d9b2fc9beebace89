"""Points 3.1 to 3.5: rootwebs/roots.py."""

import itertools
import unittest

from rootwebs.errors import NoLine, TooGreat
from rootwebs.looks import root_good
from rootwebs.roots import (
    all_roots, fewest_root, first_root, may_have, must_have, next_truths, roots_begun, roots_many, ties_tally,
)
from rootwebs.webs import is_still, renamed
from tests.helper import (
    NO_THINGS, full_web, path_web, roots_table, same_kind, slow_roots, small_webs, truths_of, webs_of, webs_to_try,
)

FULL3 = full_web(3)
FULL5 = full_web(5)
FULL5_AND_ONE = (6, FULL5[1])
TWELVE = (6, full_web(6)[1][:12])
THIRTEEN = (6, full_web(6)[1][:13])
OF_ONE_WEB = (roots_many, first_root, all_roots, ties_tally, fewest_root, must_have, may_have)


class AllRoots(unittest.TestCase):
    """3.1"""

    def test_three_places_all_tied(self):
        roots = [(3, ((0, 1), (0, 2))), FULL3, (3, ((0, 1), (1, 2))), (3, ((0, 2), (1, 2)))]
        self.assertTrue(same_kind(all_roots(FULL3), roots))
        self.assertTrue(same_kind(roots_many(FULL3), 4))
        self.assertTrue(same_kind(first_root(FULL3), roots[0]))

    def test_one_place_and_no_ties(self):
        for many in range(1, 7):
            web = (many, ())
            self.assertTrue(same_kind(all_roots(web), [web]))
            self.assertEqual(roots_many(web), 1)
            self.assertEqual(first_root(web), web)

    def test_there_is_none(self):
        for web in (path_web(3), path_web(6)):
            self.assertTrue(same_kind(all_roots(web), []))
            self.assertEqual(roots_many(web), 0)
            self.assertIsNone(first_root(web))

    def test_against_a_search_of_all_webs(self):
        for web in webs_to_try():
            roots = slow_roots(web)
            self.assertTrue(same_kind(roots_many(web), len(roots)))
            self.assertTrue(same_kind(first_root(web), min(roots, default=None)))
            if len(roots) <= 300:
                self.assertTrue(same_kind(all_roots(web), list(roots)))

    def test_each_tie_of_a_root_is_one_of_the_web(self):
        for web in webs_to_try()[::3]:
            for root in slow_roots(web):
                self.assertLessEqual(set(root[1]), set(web[1]))

    def test_what_is_told_is_a_root(self):
        for web in small_webs():
            for root in all_roots(web):
                self.assertIs(root_good(web, root), True)

    def test_more_than_300(self):
        for web in (FULL5, FULL5_AND_ONE):
            self.assertEqual(len(slow_roots(web)), 368)
            with self.assertRaises(TooGreat) as caught:
                all_roots(web)
            self.assertEqual((caught.exception.many, caught.exception.most), (368, 300))
            self.assertEqual(roots_many(web), 368)
            self.assertEqual(first_root(web), (web[0], ((0, 1), (0, 2), (0, 3), (0, 4))))

    def test_as_many_as_there_are_below_300(self):
        # No web has from 27 to 367 roots, so these are the nearest below the limit.
        most = [web for web in webs_to_try() if len(slow_roots(web)) == 26]
        self.assertTrue(most)
        for web in most:
            self.assertEqual(len(all_roots(web)), 26)

    def test_twelve_ties(self):
        self.assertEqual(roots_many(TWELVE), len(slow_roots(TWELVE)))
        rooted = [web for web in roots_table(6) if len(web[1]) == 12]
        self.assertTrue(rooted)
        for web in rooted:
            self.assertEqual(all_roots(web), list(slow_roots(web)))

    def test_thirteen_ties_and_more(self):
        for many in (13, 14, 15):
            for ties in itertools.combinations(full_web(6)[1], many):
                for call in OF_ONE_WEB:
                    with self.assertRaises(TooGreat) as caught:
                        call((6, ties))
                    self.assertEqual((caught.exception.many, caught.exception.most), (many, 12))


class Tallies(unittest.TestCase):
    """3.2"""

    def test_three_places_all_tied(self):
        self.assertTrue(same_kind(ties_tally(FULL3), [0, 0, 3, 1]))
        self.assertTrue(same_kind(fewest_root(FULL3), (3, ((0, 1), (0, 2)))))

    def test_no_ties_and_no_roots(self):
        self.assertTrue(same_kind(ties_tally((1, ())), [1]))
        self.assertEqual(ties_tally((6, ())), [1])
        self.assertEqual(fewest_root((6, ())), (6, ()))
        self.assertEqual(ties_tally(path_web(4)), [0, 0, 0, 0])
        self.assertIsNone(fewest_root(path_web(4)))

    def test_more_than_300_roots(self):
        self.assertEqual(sum(ties_tally(FULL5)), 368)
        self.assertEqual(ties_tally(FULL5)[:5], [0, 0, 0, 0, 5])
        self.assertEqual(fewest_root(FULL5), (5, ((0, 1), (0, 2), (0, 3), (0, 4))))

    def test_against_a_search_of_all_webs(self):
        unlike = 0
        for web in webs_to_try():
            roots = slow_roots(web)
            tally = [sum(len(root[1]) == t for root in roots) for t in range(len(web[1]) + 1)]
            self.assertTrue(same_kind(ties_tally(web), tally))
            fewest = min(((len(root[1]), root) for root in roots), default=(0, None))[1]
            self.assertTrue(same_kind(fewest_root(web), fewest))
            unlike += fewest != min(roots, default=None)
        # Else the test would not tell the fewest ties from the first root.
        self.assertGreater(unlike, 0)


class MustAndMay(unittest.TestCase):
    """3.3"""

    def test_some(self):
        self.assertTrue(same_kind(must_have(FULL3), ()))
        self.assertTrue(same_kind(may_have(FULL3), FULL3[1]))
        web = (4, ((0, 1), (0, 2), (1, 2), (1, 3), (2, 3)))
        self.assertTrue(same_kind(must_have(web), ((1, 2),)))

    def test_without_roots(self):
        web = path_web(6)
        self.assertTrue(same_kind(must_have(web), web[1]))
        self.assertTrue(same_kind(may_have(web), ()))

    def test_no_ties(self):
        self.assertTrue(same_kind(must_have((1, ())), ()))
        self.assertTrue(same_kind(may_have((6, ())), ()))

    def test_against_a_search_of_all_webs(self):
        for web in webs_to_try():
            roots = slow_roots(web)
            must = tuple(tie for tie in web[1] if all(tie in root[1] for root in roots))
            may = tuple(tie for tie in web[1] if any(tie in root[1] for root in roots))
            self.assertTrue(same_kind(must_have(web), must))
            self.assertTrue(same_kind(may_have(web), may))


class Beginnings(unittest.TestCase):
    """3.4"""

    def test_three_places_all_tied(self):
        self.assertTrue(same_kind(roots_begun(FULL3, ()), 4))
        self.assertEqual(roots_begun(FULL3, (True,)), 3)
        self.assertEqual(roots_begun(FULL3, (False,)), 1)
        self.assertEqual(roots_begun(FULL3, (True, True, True)), 1)
        self.assertEqual(roots_begun(FULL3, (True, False, False)), 0)
        self.assertTrue(same_kind(next_truths(FULL3, ()), [False, True]))
        self.assertTrue(same_kind(next_truths(FULL3, (False,)), [True]))
        self.assertTrue(same_kind(next_truths(FULL3, (False, False)), []))
        self.assertTrue(same_kind(next_truths(FULL3, (True, True, True)), []))

    def test_no_ties(self):
        self.assertEqual(roots_begun((1, ()), ()), 1)
        self.assertTrue(same_kind(next_truths((1, ()), ()), []))

    def test_an_empty_beginning_has_all_roots(self):
        for web in webs_to_try():
            self.assertEqual(roots_begun(web, ()), len(slow_roots(web)))

    def check(self, web, begun):
        rest = [truths_of(web, root) for root in slow_roots(web)]
        rest = [truths for truths in rest if truths[:len(begun)] == begun]
        self.assertTrue(same_kind(roots_begun(web, begun), len(rest)))
        nexts = sorted({truths[len(begun)] for truths in rest}) if len(begun) < len(web[1]) else []
        self.assertTrue(same_kind(next_truths(web, begun), nexts))

    def test_each_beginning_of_small_webs(self):
        for web in small_webs():
            for size in range(len(web[1]) + 1):
                for begun in itertools.product((False, True), repeat=size):
                    self.check(web, begun)

    def test_the_beginnings_of_roots_of_greater_webs(self):
        for web in sorted(roots_table(5))[::9] + sorted(roots_table(6))[::97]:
            if len(web[1]) > 12:
                continue
            for root in slow_roots(web)[:3]:
                truths = truths_of(web, root)
                for size in range(len(truths) + 1):
                    self.check(web, truths[:size])
                    if size:
                        self.check(web, truths[:size - 1] + (not truths[size - 1],))

    def test_a_beginning_of_twelve_truths(self):
        web = min(web for web in roots_table(6) if len(web[1]) == 12)
        for root in slow_roots(web):
            self.check(web, truths_of(web, root))
        self.check(web, (False,) * 12)
        with self.assertRaises(NoLine):
            roots_begun(web, (True,) * 13)

    def test_what_is_no_beginning(self):
        wrong = [[], [True], (True, True, True, True), (1,), (0,), (True, 1), (True, None), (True, "True"), ((True,),),
                 (True, (False,)), (True, []), {}, {True: True}, True, False, 0, 1, "", "TF", None, ({},)]
        for thing in wrong + [thing for thing in NO_THINGS if thing != (True, False)]:
            for call in (roots_begun, next_truths):
                with self.assertRaises(NoLine, msg=repr(thing)):
                    call(FULL3, thing)
        with self.assertRaises(NoLine):
            roots_begun((1, ()), (True,))

    def test_too_many_ties_go_ahead_of_no_beginning(self):
        for begun in [(), None, [True], (True,) * 13, (True,) * 14, (1,), "x"]:
            for call in (roots_begun, next_truths):
                with self.assertRaises(TooGreat) as caught:
                    call(THIRTEEN, begun)
                self.assertEqual((caught.exception.many, caught.exception.most), (13, 12))


class So(unittest.TestCase):
    """3.5"""

    def test_a_star_is_a_root_where_all_are_tied(self):
        for many in range(2, 7):
            for middle in range(many):
                star = tuple(tuple(sorted((middle, end))) for end in range(many) if end != middle)
                star = (many, tuple(sorted(star)))
                self.assertIs(root_good(full_web(many), star), True)
                if many <= 5:
                    self.assertEqual(roots_begun(full_web(many), truths_of(full_web(many), star)), 1)

    def test_a_still_web_is_a_root_of_itself(self):
        still = [web for many in range(1, 7) for web in webs_of(many) if is_still(web)]
        self.assertEqual(len(still), 1 + 2 + 5 + 15 + 52 + 203)
        for web in still:
            self.assertIs(root_good(web, web), True)
            if len(web[1]) <= 12:
                self.assertEqual(roots_begun(web, (True,) * len(web[1])), 1)

    def test_a_web_renamed_has_as_many_roots(self):
        webs = small_webs() + webs_of(5)[::13] + sorted(roots_table(6))[::67]
        for web in webs:
            if len(web[1]) <= 12:
                for names in list(itertools.permutations(range(web[0])))[::37]:
                    self.assertEqual(roots_many(renamed(web, names)), roots_many(web))


if __name__ == "__main__":
    unittest.main()
