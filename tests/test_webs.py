"""Points 1.1 to 1.5: rootwebs/webs.py."""

import itertools
import unittest

from rootwebs.errors import NoNumber, NoPlace, NoWeb
from rootwebs.webs import (
    far_of, is_still, renamed, star_of, steps_web, still_from, two_step, web_good, web_of,
)
from tests.helper import (
    NO_THINGS, full_web, many_webs, nested, pairs_of, path_web, same_kind, slow_fars, slow_steps,
    slow_two_step, small_webs, webs_of,
)

PATH4 = (4, ((0, 1), (1, 2), (2, 3)))
APART = (5, ((0, 3), (1, 2)))


class WebGood(unittest.TestCase):
    """1.1"""

    def test_webs_are_good(self):
        for web in many_webs():
            self.assertIs(web_good(web), True)

    def test_one_place_and_six_places(self):
        self.assertIs(web_good((1, ())), True)
        self.assertIs(web_good((6, ())), True)
        self.assertIs(web_good(full_web(6)), True)
        self.assertIs(web_good((0, ())), False)
        self.assertIs(web_good((7, ())), False)
        self.assertIs(web_good((-1, ())), False)

    def test_ties_are_rising(self):
        self.assertIs(web_good((3, ((0, 1), (0, 2), (1, 2)))), True)
        self.assertIs(web_good((3, ((0, 2), (0, 1)))), False)
        self.assertIs(web_good((3, ((0, 1), (1, 2), (0, 2)))), False)
        self.assertIs(web_good((3, ((0, 1), (0, 1)))), False)

    def test_a_tie_has_two_places_the_lesser_ahead(self):
        for tie in [(1, 0), (1, 1), (0, 3), (-1, 0), (0,), (), (0, 1, 2), (0, None), ("0", "1"), (0, (1,))]:
            self.assertIs(web_good((3, (tie,))), False, tie)

    def test_truths_are_no_whole_numbers(self):
        for thing in [(True, ()), (3, ((False, 1),)), (3, ((0, True),)), (3, ((False, True),)), (False, ())]:
            self.assertIs(web_good(thing), False, thing)

    def test_lists_are_no_tuples(self):
        for thing in [[3, ()], (3, []), (3, [(0, 1)]), (3, ([0, 1],)), [3, [[0, 1]]]]:
            self.assertIs(web_good(thing), False, thing)

    def test_other_shapes(self):
        for thing in [(), (3,), (3, (), ()), (3, (), 0), ((), 3), (3, 0), (3, None), (3, {}), (3, "01"), ("3", ()),
                      (None, None), (3, ((0, 1), 5)), (3, (5, (0, 1))), (3, ((0, 1), None, (0, 2)))]:
            self.assertIs(web_good(thing), False, thing)

    def test_whatever_is_handed_in(self):
        for thing in NO_THINGS + [nested((3, ()), 18)]:
            self.assertIs(web_good(thing), False, thing)
            self.assertIs(web_good((3, thing)), False, thing)
            self.assertIs(web_good((3, (thing,))), False, thing)
            self.assertIs(web_good((3, ((0, 1), thing))), False, thing)
            self.assertIs(web_good((3, ((0, thing),))), False, thing)
            self.assertIs(web_good((thing, ())), False, thing)


class WebOf(unittest.TestCase):
    """1.2"""

    def refused(self, many, things):
        with self.assertRaises(NoWeb) as caught:
            web_of(many, things)
        self.assertIs(type(caught.exception.number), int)
        return caught.exception.number

    def test_pairs_in_any_order_either_end_ahead_one_twice(self):
        web = web_of(4, [(3, 2), (1, 0), (0, 1), (2, 3), (0, 3), (1, 0)])
        self.assertTrue(same_kind(web, (4, ((0, 1), (0, 3), (2, 3)))))

    def test_no_pairs(self):
        self.assertTrue(same_kind(web_of(1, []), (1, ())))
        self.assertTrue(same_kind(web_of(6, []), (6, ())))

    def test_each_web_comes_of_its_ties(self):
        for many, ties in many_webs():
            backward = [(b, a) for a, b in reversed(ties)]
            self.assertTrue(same_kind(web_of(many, backward + list(ties)), (many, ties)))

    def test_all_pairs_of_six(self):
        self.assertEqual(web_of(6, list(itertools.permutations(range(6), 2))), full_web(6))

    def test_no_number_of_places(self):
        for many in NO_THINGS + [0, 7, (3,), "3", [3]]:
            self.assertEqual(self.refused(many, []), -1)
            self.assertEqual(self.refused(many, [(0, 1)]), -1)

    def test_the_number_of_places_goes_ahead_of_the_things(self):
        self.assertEqual(self.refused(0, [None]), -1)
        self.assertEqual(self.refused(True, [(0, 0)]), -1)

    def test_the_first_wrong_thing(self):
        self.assertEqual(self.refused(3, [None]), 0)
        self.assertEqual(self.refused(3, [(0, 1), (1, 1), (0, 3)]), 1)
        self.assertEqual(self.refused(3, [(0, 1), (2, 1), (0, 3), None]), 2)
        self.assertEqual(self.refused(1, [(0, 0)]), 0)
        self.assertEqual(self.refused(1, [(0, 1)]), 0)

    def test_whatever_thing(self):
        wrong = [(0, 0), (0, 3), (3, 0), (-1, 0), (0, -1), (0,), (0, 1, 2), [0, 1], (False, 1), (0, True), (1, False),
                 (0, None), ((0, 1),), ((0,), 1), (0, "1"), "01", {0: 1, 1: 0}]
        for thing in NO_THINGS + wrong:
            self.assertEqual(self.refused(3, [(0, 1), (1, 0), thing, (0, 2)]), 2, thing)

    def test_the_list_is_left_as_it_was(self):
        things = [(2, 1), (1, 0), (0, 1)]
        web_of(3, things)
        self.assertEqual(things, [(2, 1), (1, 0), (0, 1)])


class FarAndStar(unittest.TestCase):
    """1.3"""

    def test_far_of(self):
        self.assertEqual(far_of(PATH4, 0, 3), 3)
        self.assertEqual(far_of(PATH4, 3, 1), 2)
        self.assertEqual(far_of(path_web(6), 5, 0), 5)
        self.assertIsNone(far_of(APART, 0, 1))
        self.assertEqual(far_of((1, ()), 0, 0), 0)

    def test_far_of_each_two_places_of_many_webs(self):
        for web in many_webs():
            fars = slow_fars(web)
            for one in range(web[0]):
                for other in range(web[0]):
                    self.assertTrue(same_kind(far_of(web, one, other), fars[one][other]))

    def test_star_of(self):
        self.assertEqual(star_of(PATH4, 2), (1, 2, 3))
        self.assertEqual(star_of(PATH4, 0), (0, 1))
        self.assertEqual(star_of(APART, 4), (4,))
        self.assertEqual(star_of((1, ()), 0), (0,))
        self.assertEqual(star_of(full_web(6), 3), (0, 1, 2, 3, 4, 5))

    def test_star_of_each_place_of_many_webs(self):
        for web in many_webs():
            fars = slow_fars(web)
            for place in range(web[0]):
                star = tuple(other for other in range(web[0]) if fars[place][other] in (0, 1))
                self.assertTrue(same_kind(star_of(web, place), star))

    def test_what_is_no_place(self):
        for thing in NO_THINGS + [4, (0,)]:
            for call in (lambda: far_of(PATH4, thing, 0), lambda: far_of(PATH4, 0, thing),
                         lambda: far_of(PATH4, thing, thing), lambda: star_of(PATH4, thing)):
                with self.assertRaises(NoPlace):
                    call()


class Steps(unittest.TestCase):
    """1.3"""

    def test_steps_of_a_path(self):
        self.assertTrue(same_kind(steps_web(PATH4, 1), PATH4))
        self.assertTrue(same_kind(steps_web(PATH4, 2), (4, ((0, 1), (0, 2), (1, 2), (1, 3), (2, 3)))))
        self.assertEqual(steps_web(PATH4, 3), full_web(4))
        self.assertEqual(steps_web(path_web(6), 4), (6, full_web(6)[1][:4] + full_web(6)[1][5:]))
        self.assertEqual(steps_web(path_web(6), 5), full_web(6))
        self.assertEqual(steps_web(path_web(6), 6), full_web(6))

    def test_places_apart_stay_apart(self):
        self.assertEqual(steps_web(APART, 6), APART)
        self.assertEqual(steps_web((6, ()), 6), (6, ()))
        self.assertEqual(steps_web((1, ()), 1), (1, ()))

    def test_steps_of_many_webs(self):
        for web in many_webs():
            for k in range(1, 7):
                self.assertTrue(same_kind(steps_web(web, k), slow_steps(web, k)))

    def test_two_step_of_many_webs(self):
        for web in many_webs():
            self.assertTrue(same_kind(two_step(web), slow_two_step(web)))

    def test_what_is_no_number(self):
        for thing in NO_THINGS + [0, 7, "2", (2,), [2]]:
            with self.assertRaises(NoNumber):
                steps_web(PATH4, thing)


class Still(unittest.TestCase):
    """1.4"""

    def test_still_from(self):
        self.assertEqual(still_from(path_web(6)), 5)
        self.assertEqual(still_from(PATH4), 3)
        self.assertEqual(still_from(full_web(6)), 1)
        self.assertEqual(still_from((6, ())), 1)
        self.assertEqual(still_from((1, ())), 1)
        self.assertEqual(still_from(APART), 1)

    def test_still_from_is_the_least_and_all_greater_ones_are_alike(self):
        for web in many_webs():
            least = still_from(web)
            self.assertIs(type(least), int)
            steps = {k: slow_steps(web, k) for k in range(1, 8)}
            self.assertEqual(least, min(k for k in range(1, 7) if steps[k] == steps[k + 1]))
            for k in range(least, 7):
                self.assertEqual(steps_web(web, k), steps[least])

    def test_is_still(self):
        self.assertIs(is_still(full_web(6)), True)
        self.assertIs(is_still((1, ())), True)
        self.assertIs(is_still(APART), True)
        self.assertIs(is_still((3, ((0, 1), (1, 2)))), False)

    def test_still_just_where_places_of_a_piece_are_tied(self):
        for web in many_webs():
            fars = slow_fars(web)
            tied = all(fars[a][b] in (None, 1) for a, b in pairs_of(web[0]))
            self.assertIs(is_still(web), tied)
            self.assertEqual(is_still(web), two_step(web) == web)


class Renamed(unittest.TestCase):
    """1.5"""

    def test_each_place_has_the_number_at_its_place(self):
        web = renamed((4, ((0, 1), (1, 2))), (2, 0, 3, 1))
        self.assertTrue(same_kind(web, (4, ((0, 2), (0, 3)))))
        self.assertEqual(renamed((1, ()), (0,)), (1, ()))

    def test_ties_go_along(self):
        for web in small_webs():
            for names in itertools.permutations(range(web[0])):
                ties = sorted(tuple(sorted((names[a], names[b]))) for a, b in web[1])
                self.assertTrue(same_kind(renamed(web, names), (web[0], tuple(ties))))

    def test_what_is_no_renaming(self):
        wrong = [(), (0, 1), (0, 1, 2, 3), (0, 1, 2, 0), (0, 1, 1), (0, 1, 3), (-1, 0, 1), (0, 1, None), (0, True, 2),
                 (False, True, 2), [0, 1, 2], {0: 0, 1: 1, 2: 2}, "012", ((0, 1, 2),), (0, 1, (2,)), (0, 1, [2]),
                 (0, 1, {}), 0, (0, 0, 0)]
        for thing in NO_THINGS + wrong:
            with self.assertRaises(NoPlace, msg=repr(thing)):
                renamed((3, ((0, 1),)), thing)
        with self.assertRaises(NoPlace):
            renamed((1, ()), (False,))

    def test_two_steps_renamed_are_two_steps_of_the_renamed(self):
        for web in small_webs() + webs_of(5)[::17] + webs_of(6)[::997]:
            for names in list(itertools.permutations(range(web[0])))[::5]:
                self.assertEqual(two_step(renamed(web, names)), renamed(two_step(web), names))

    def test_steps_by_k_and_then_by_j(self):
        for web in many_webs():
            for k, j in itertools.product(range(1, 7), repeat=2):
                if k * j <= 6:
                    self.assertEqual(steps_web(steps_web(web, k), j), steps_web(web, k * j))


if __name__ == "__main__":
    unittest.main()
