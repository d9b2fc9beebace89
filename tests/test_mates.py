"""Points 9.1 to 9.5: rootwebs/mates.py."""

import unittest

from rootwebs.errors import NoNumber
from rootwebs.looks import root_good
from rootwebs.mates import (
    all_webs, are_mates, fewest_mate, kinds_table, mate_span, mates_many, mates_of, rooted_many, rooted_table,
)
from rootwebs.roots import all_roots, first_root, roots_many
from rootwebs.webs import is_still, two_step
from tests.helper import (
    NO_THINGS, fields_of_too_great, full_web, many_webs, nested, path_web, refused, ring_web, roots_table, same_kind,
    slow_roots, slow_two_step, small_webs, webs_of, webs_to_try,
)

FULL5 = full_web(5)
FULL6 = full_web(6)
STAR5 = (5, ((0, 1), (0, 2), (0, 3), (0, 4)))
STAR6 = (6, ((0, 1), (0, 2), (0, 3), (0, 4), (0, 5)))
OF_A_WEB = (mates_of, mates_many, fewest_mate, mate_span)
OF_MANY = (all_webs, rooted_many, rooted_table, kinds_table)
NO_NUMBERS = NO_THINGS + [0, 5, 6, 7, -1, -4, "1", "4", [1], (1,), {1: 1}, nested(1, 19), 10 ** 39 + 1, (1, ())]


def slow_mates(web):
    """All webs of as many places with the same two-step web, rising."""
    return list(slow_roots(slow_two_step(web)))


def slow_fewest(web):
    return min(slow_mates(web), key=lambda mate: (len(mate[1]), mate))


def slow_span(web):
    sizes = [len(mate[1]) for mate in slow_mates(web)]
    return (min(sizes), max(sizes))


def mated_webs():
    """Webs whose two-step webs have at most twelve ties."""
    webs = many_webs() + webs_of(6)[5::43]
    return [web for web in webs if len(slow_two_step(web)[1]) <= 12]


class Mates(unittest.TestCase):
    """9.1"""

    def test_three_places(self):
        path = path_web(3)
        mates = [(3, ((0, 1), (0, 2))), full_web(3), path, (3, ((0, 2), (1, 2)))]
        for web in mates:
            self.assertTrue(same_kind(mates_of(web), mates))
            self.assertTrue(same_kind(mates_many(web), 4))
            for other in mates:
                self.assertIs(are_mates(web, other), True)
            self.assertIs(are_mates(web, (3, ())), False)
            self.assertIs(are_mates((3, ((0, 1),)), web), False)

    def test_one_place_and_no_ties(self):
        for many in range(1, 7):
            web = (many, ())
            self.assertTrue(same_kind(mates_of(web), [web]))
            self.assertTrue(same_kind(mates_many(web), 1))
            self.assertIs(are_mates(web, web), True)
            for other in range(1, 7):
                self.assertIs(are_mates(web, (other, ())), many == other)

    def test_unlike_many_places(self):
        for web in small_webs():
            for other in ((5, web[1]), (6, web[1])):
                self.assertIs(are_mates(web, other), False)
                self.assertIs(are_mates(other, web), False)
                self.assertIs(are_mates(other, other), True)

    def test_any_two_small_webs(self):
        webs = small_webs()
        twos = {web: slow_two_step(web) for web in webs}
        for one in webs:
            for other in webs:
                self.assertIs(are_mates(one, other), twos[one] == twos[other])

    def test_greater_webs(self):
        # More than twelve ties, or more than 300 mates, are no matter for two webs.
        webs = webs_of(5)[::37] + webs_of(6)[::997] + [STAR6, FULL6, ring_web(6), (6, FULL6[1][:13])]
        for one in webs:
            for other in webs:
                self.assertIs(are_mates(one, other), slow_two_step(one) == slow_two_step(other))

    def test_against_a_search_of_all_webs(self):
        for web in mated_webs():
            mates = slow_mates(web)
            self.assertTrue(same_kind(mates_many(web), len(mates)))
            if len(mates) <= 300:
                self.assertTrue(same_kind(mates_of(web), mates))
                self.assertIn(web, mates)

    def test_more_than_300(self):
        for web in (STAR5, FULL5, ring_web(5), (6, STAR5[1]), (6, FULL5[1])):
            self.assertEqual(len(slow_mates(web)), 368)
            self.assertEqual(fields_of_too_great(self, mates_of, web), (368, 300))
            self.assertTrue(same_kind(mates_many(web), 368))
        # No web has from 27 to 367 mates, so these are the nearest below the limit.
        most = [web for web in mated_webs() if len(slow_mates(web)) == 26]
        self.assertTrue(most)
        for web in most:
            self.assertEqual(len(mates_of(web)), 26)

    def test_a_two_step_web_of_more_than_twelve_ties(self):
        found = set()
        for web in many_webs() + [STAR6, FULL6, ring_web(6)]:
            many = len(slow_two_step(web)[1])
            if many > 12:
                # The web itself may have few ties.
                found.add((many, len(web[1])))
                for call in OF_A_WEB:
                    self.assertEqual(fields_of_too_great(self, call, web), (many, 12))
        self.assertEqual({many for many, size in found}, {13, 14, 15})
        self.assertEqual(min(size for many, size in found), 5)

    def test_a_two_step_web_of_twelve_ties(self):
        twelve = [web for web in mated_webs() if len(slow_two_step(web)[1]) == 12]
        self.assertTrue(twelve)
        for web in twelve:
            self.assertEqual(mates_of(web), slow_mates(web))
            self.assertEqual(mates_many(web), len(slow_mates(web)))
            self.assertEqual(fewest_mate(web), slow_fewest(web))
            self.assertEqual(mate_span(web), slow_span(web))


class Tables(unittest.TestCase):
    """9.2 and 9.3"""

    def test_one_and_two_places(self):
        self.assertTrue(same_kind(all_webs(1), [(1, ())]))
        self.assertTrue(same_kind(all_webs(2), [(2, ()), (2, ((0, 1),))]))
        self.assertTrue(same_kind(rooted_many(1), 1))
        self.assertTrue(same_kind(rooted_many(2), 2))
        self.assertTrue(same_kind(rooted_table(1), [1]))
        self.assertTrue(same_kind(rooted_table(2), [1, 1]))
        self.assertTrue(same_kind(kinds_table(1), [((1, ()), 1)]))
        self.assertTrue(same_kind(kinds_table(2), [((2, ()), 1), ((2, ((0, 1),)), 1)]))

    def test_three_places(self):
        self.assertTrue(same_kind(rooted_many(3), 5))
        self.assertTrue(same_kind(rooted_table(3), [1, 3, 0, 1]))
        ones = [((3, ()), 1), ((3, ((0, 1),)), 1), ((3, ((0, 2),)), 1), ((3, ((1, 2),)), 1)]
        self.assertTrue(same_kind(kinds_table(3), sorted(ones + [(full_web(3), 4)])))

    def test_four_places(self):
        self.assertTrue(same_kind(rooted_many(4), 21))
        self.assertTrue(same_kind(rooted_table(4), [1, 6, 3, 4, 0, 6, 1]))
        self.assertIn((full_web(4), 26), kinds_table(4))

    def test_against_a_search_of_all_webs(self):
        for many in range(1, 5):
            webs = sorted(webs_of(many))
            table = roots_table(many)
            self.assertTrue(same_kind(all_webs(many), webs))
            self.assertTrue(same_kind(rooted_many(many), len(table)))
            sizes = [len(web[1]) for web in table]
            most = many * (many - 1) // 2
            self.assertTrue(same_kind(rooted_table(many), [sizes.count(t) for t in range(most + 1)]))
            self.assertTrue(same_kind(kinds_table(many), [(web, len(table[web])) for web in sorted(table)]))

    def test_how_many_webs(self):
        self.assertEqual([len(all_webs(many)) for many in range(1, 5)], [1, 2, 8, 64])

    def test_no_number(self):
        for thing in NO_NUMBERS:
            for call in OF_MANY:
                refused(self, NoNumber, call, thing)


class Fewest(unittest.TestCase):
    """9.4"""

    def test_some(self):
        self.assertTrue(same_kind(fewest_mate(full_web(3)), (3, ((0, 1), (0, 2)))))
        self.assertTrue(same_kind(mate_span(path_web(3)), (2, 3)))
        self.assertTrue(same_kind(fewest_mate((6, ())), (6, ())))
        self.assertTrue(same_kind(mate_span((1, ())), (0, 0)))
        self.assertTrue(same_kind(fewest_mate((1, ())), (1, ())))
        self.assertTrue(same_kind(mate_span(path_web(6)), slow_span(path_web(6))))

    def test_more_than_300_mates(self):
        for web in (STAR5, FULL5, (6, FULL5[1])):
            self.assertTrue(same_kind(fewest_mate(web), (web[0], STAR5[1])))
            self.assertTrue(same_kind(mate_span(web), (4, 10)))

    def test_against_a_search_of_all_webs(self):
        unlike = 0
        for web in mated_webs():
            self.assertTrue(same_kind(fewest_mate(web), slow_fewest(web)))
            self.assertTrue(same_kind(mate_span(web), slow_span(web)))
            unlike += slow_fewest(web) != slow_mates(web)[0]
        # Else the test would not tell the fewest ties from the first mate.
        self.assertGreater(unlike, 50)


class So(unittest.TestCase):
    """9.3 and 9.5"""

    def test_the_mates_come_to_all_webs(self):
        for many in range(1, 5):
            self.assertEqual(sum(mates for web, mates in kinds_table(many)), len(all_webs(many)))
            self.assertEqual(sum(rooted_table(many)), rooted_many(many))
            for web, mates in kinds_table(many):
                self.assertEqual(roots_many(web), mates)

    def test_mates_are_roots_of_one_web(self):
        for web in mated_webs()[::2]:
            two = two_step(web)
            if mates_many(web) <= 300:
                mates = mates_of(web)
                self.assertEqual(mates, all_roots(two))
                for mate in mates:
                    self.assertIs(root_good(two, mate), True)
                    self.assertIs(are_mates(web, mate), True)
            self.assertEqual(mates_many(web), roots_many(two))

    def test_roots_of_one_web_are_mates(self):
        for web in webs_to_try()[::5]:
            if 0 < roots_many(web) <= 300:
                roots = all_roots(web)
                for root in roots[:3]:
                    self.assertEqual(mates_of(root), roots)

    def test_a_web_has_a_root_just_where_it_is_in_the_table(self):
        for many in range(1, 5):
            kinds = [web for web, mates in kinds_table(many)]
            for web in all_webs(many):
                self.assertIs(first_root(web) is not None, web in kinds)

    def test_where_a_web_is_not_still_no_root_of_it_is(self):
        tried = 0
        for web in [web for web in webs_to_try() if not is_still(web)]:
            if roots_many(web) <= 300:
                for root in all_roots(web):
                    self.assertIs(is_still(root), False)
                    tried += 1
        self.assertGreater(tried, 1000)


if __name__ == "__main__":
    unittest.main()
