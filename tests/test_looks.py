"""Points 2.1 to 2.5: rootwebs/looks.py."""

import itertools
import unittest

from rootwebs.errors import NoPlace, NoRoot, TooGreat
from rootwebs.looks import (
    beside, differences, first_show, first_wrong, pieces_of, root_good, show_good, steps_from, within,
)
from rootwebs.webs import two_step
from tests.helper import (
    NO_THINGS, full_web, many_webs, nested, pairs_of, path_web, same_kind, slow_fars, slow_roots, slow_two_step,
    small_webs, webs_of,
)

STAR3 = (3, ((0, 1), (0, 2)))
FULL3 = full_web(3)
PATH4 = path_web(4)
NO_WEBS_OF_THREE = NO_THINGS + [
    (2, ()), (4, ()), (3, ((1, 0),)), (3, ((0, 1), (0, 1))), (3, []), [3, ()], (3, [(0, 1)]), (3, ((0, True),)),
    (3, ((False, 1),)), (3, ((0, 3),)), (3, ()) + (None,), nested((3, ()), 1), {3: ()}, "3", 3,
]


def pairs_of_webs():
    """Webs of as many places, each with each, up to three places, and some of four to six."""
    alike = [(one, other) for many in (1, 2, 3) for one in webs_of(many) for other in webs_of(many)]
    for many, by in ((4, 3), (5, 89), (6, 2999)):
        some = webs_of(many)[::by]
        alike += list(itertools.product(some, some))
    return alike


class RootGood(unittest.TestCase):
    """2.1"""

    def test_roots(self):
        self.assertIs(root_good(FULL3, STAR3), True)
        self.assertIs(root_good(FULL3, FULL3), True)
        self.assertIs(root_good(FULL3, (3, ((0, 1),))), False)
        self.assertIs(root_good(STAR3, STAR3), False)
        self.assertIs(root_good((1, ()), (1, ())), True)
        self.assertIs(root_good((6, ()), (6, ())), True)
        self.assertIs(root_good(full_web(6), (6, tuple((0, b) for b in range(1, 6)))), True)

    def test_another_number_of_places(self):
        self.assertIs(root_good((3, ()), (2, ())), False)
        self.assertIs(root_good((3, ()), (4, ())), False)

    def test_against_the_words(self):
        for web, other in pairs_of_webs():
            self.assertIs(root_good(web, other), slow_two_step(other) == web)

    def test_whatever_is_handed_in(self):
        for thing in NO_WEBS_OF_THREE + [(3, ((0, True), (0, 2))), (3, [(0, 1), (0, 2)]), (3, ((False, 1), (0, 2))),
                                         [3, ((0, 1), (0, 2))], (3, ((0, 2), (0, 1))), (3, ([0, 1], [0, 2]))]:
            for web in (FULL3, (3, ())):
                self.assertIs(root_good(web, thing), False, thing)


class Differences(unittest.TestCase):
    """2.2"""

    def test_lacks_and_more(self):
        web = (4, ((0, 1), (0, 2), (2, 3)))
        told = differences(web, (4, ((0, 1), (1, 3))))
        self.assertTrue(same_kind(told, (((0, 2), (2, 3)), ((0, 3), (1, 3)))))
        self.assertTrue(same_kind(first_wrong(web, (4, ((0, 1), (1, 3)))), ("lacks", 0, 2)))

    def test_more_goes_first_where_it_is_less(self):
        web = (4, ((0, 1), (2, 3)))
        self.assertEqual(differences(web, (4, ((0, 1), (1, 2)))), (((2, 3),), ((0, 2), (1, 2))))
        self.assertTrue(same_kind(first_wrong(web, (4, ((0, 1), (1, 2)))), ("more", 0, 2)))

    def test_nothing_differs(self):
        self.assertTrue(same_kind(differences(FULL3, STAR3), ((), ())))
        self.assertIsNone(first_wrong(FULL3, STAR3))
        self.assertEqual(differences((1, ()), (1, ())), ((), ()))
        self.assertIsNone(first_wrong((1, ()), (1, ())))

    def test_against_the_words(self):
        for web, other in pairs_of_webs():
            reached = slow_two_step(other)[1]
            lacks = tuple(sorted(set(web[1]) - set(reached)))
            more = tuple(sorted(set(reached) - set(web[1])))
            self.assertTrue(same_kind(differences(web, other), (lacks, more)))
            wrong = [(pair, "lacks") for pair in lacks] + [(pair, "more") for pair in more]
            least = (min(wrong)[1],) + min(wrong)[0] if wrong else None
            self.assertTrue(same_kind(first_wrong(web, other), least))

    def test_what_is_no_web_of_as_many_places(self):
        for thing in NO_WEBS_OF_THREE:
            for call in (differences, first_wrong):
                with self.assertRaises(NoRoot, msg=repr(thing)):
                    call(FULL3, thing)


class StepsFrom(unittest.TestCase):
    """2.3"""

    def test_steps_as_tuples_compare(self):
        web = (5, ((0, 1), (0, 3), (0, 4), (1, 3), (3, 4)))
        self.assertTrue(same_kind(steps_from(web, 0, 3), [(0, 1, 3), (0, 3), (0, 4, 3)]))
        self.assertEqual(steps_from(web, 3, 0), [(3, 0), (3, 1, 0), (3, 4, 0)])
        self.assertEqual(steps_from(web, 1, 4), [(1, 0, 4), (1, 3, 4)])
        self.assertEqual(steps_from(web, 0, 2), [])

    def test_one_place_and_itself(self):
        self.assertTrue(same_kind(steps_from(FULL3, 1, 1), []))
        self.assertEqual(steps_from((1, ()), 0, 0), [])

    def test_against_the_words(self):
        for web in many_webs():
            fars = slow_fars(web)
            for a, b in itertools.permutations(range(web[0]), 2):
                steps = [(a, c, b) for c in range(web[0]) if fars[a][c] == 1 and fars[c][b] == 1]
                steps += [(a, b)] if fars[a][b] == 1 else []
                self.assertTrue(same_kind(steps_from(web, a, b), sorted(steps)))

    def test_what_is_no_place(self):
        for thing in NO_THINGS + [3, (0,), "1"]:
            for one, other in ((thing, 0), (0, thing), (thing, thing)):
                with self.assertRaises(NoPlace):
                    steps_from(FULL3, one, other)


class Shows(unittest.TestCase):
    """2.3"""

    def test_a_show(self):
        show = ((0, 1), (0, 2), (1, 0, 2))
        self.assertIs(show_good(FULL3, STAR3, show), True)
        self.assertTrue(same_kind(first_show(FULL3, STAR3), show))
        self.assertTrue(same_kind(first_show(FULL3, FULL3), ((0, 1), (0, 1, 2), (1, 0, 2))))

    def test_a_show_does_not_show_that_nothing_is_more(self):
        web = (3, ((0, 1),))
        self.assertIs(show_good(web, STAR3, ((0, 1),)), True)
        self.assertEqual(first_show(web, STAR3), ((0, 1),))
        self.assertIs(root_good(web, STAR3), False)

    def test_no_ties(self):
        self.assertTrue(same_kind(first_show((1, ()), (1, ())), ()))
        self.assertTrue(same_kind(first_show((3, ()), STAR3), ()))
        self.assertIs(show_good((3, ()), STAR3, ()), True)
        self.assertIs(show_good((3, ()), STAR3, []), False)
        self.assertIs(show_good((3, ()), STAR3, None), False)
        self.assertIs(show_good((3, ()), STAR3, ((0, 1),)), False)

    def test_there_is_none(self):
        self.assertIsNone(first_show(FULL3, (3, ((0, 1),))))
        self.assertIsNone(first_show(FULL3, (3, ((1, 2),))))

    def test_what_is_no_show(self):
        good = ((0, 1), (0, 2), (1, 0, 2))
        wrong = [
            list(good), good[:2], good + ((0, 1),), (), (good,), (good[1], good[0], good[2]),
            ((1, 0), (0, 2), (1, 0, 2)), ((0, 1), (0, 2), (2, 0, 1)), ((0, 1), (0, 2), (1, 2)),
            ((0, 1), (0, 2), (0, 1)),
            ((0, 1), (0, 2), [1, 0, 2]), ((0, 1), (0, 2), None), ((0, 1), (0, 2), (True, 0, 2)),
            ((False, 1), (0, 2), (1, 0, 2)), ((0, True), (0, 2), (1, 0, 2)), ((0, 1), (0, 2), (1, False, 2)),
            ((0, 1), (0, 2), (1, 1, 2)), ((0, 1), (0, 2), (1, 0, 0, 2)), ((0, 1), (0, 2), ()), ((0, 1), (0, 2), (1,)),
            ((0, 0, 1), (0, 2), (1, 0, 2)), ((0, 1), (0, 2), "102"), ((0, 1), (0, 2), {1: 0}), {0: 1, 1: 2, 2: 3},
            "abc",
            ((0, 1), (0, 2), (1, (0,), 2)), ((0, 1), (0, 2), (1, 3, 2)), ((0, 1), (0, 2), (1, -3, 2)),
        ]
        for thing in NO_THINGS + wrong:
            self.assertIs(show_good(FULL3, STAR3, thing), False, thing)

    def test_against_the_words(self):
        for web, other in [(web, other) for many in (1, 2, 3) for web in webs_of(many) for other in webs_of(many)]:
            steps = [step for pair in pairs_of(web[0]) for step in steps_from(other, *pair)]
            ends = [tuple(tie) for tie in web[1]]
            shows = [show for show in itertools.product(steps, repeat=len(ends))
                     if [(step[0], step[-1]) for step in show] == ends]
            for show in itertools.product(steps, repeat=len(ends)):
                self.assertIs(show_good(web, other, show), show in shows)
            self.assertEqual(first_show(web, other), min(shows, default=None))

    def test_a_first_show_is_there_just_where_nothing_lacks(self):
        for web, other in pairs_of_webs():
            show = first_show(web, other)
            self.assertEqual(show is None, differences(web, other)[0] != ())
            if show is not None:
                self.assertIs(show_good(web, other, show), True)

    def test_what_is_no_web_of_as_many_places(self):
        for thing in NO_WEBS_OF_THREE:
            with self.assertRaises(NoRoot):
                first_show(FULL3, thing)
            for show in (None, (), ((0, 1), (0, 2), (1, 0, 2))):
                with self.assertRaises(NoRoot):
                    show_good(FULL3, thing, show)


class Pieces(unittest.TestCase):
    """2.4"""

    def test_pieces_by_their_least_places(self):
        self.assertTrue(same_kind(pieces_of((6, ((0, 4), (1, 2), (2, 5)))), [(0, 4), (1, 2, 5), (3,)]))
        self.assertEqual(pieces_of((1, ())), [(0,)])
        self.assertEqual(pieces_of((6, ())), [(0,), (1,), (2,), (3,), (4,), (5,)])
        self.assertEqual(pieces_of(path_web(6)), [(0, 1, 2, 3, 4, 5)])

    def test_pieces_of_many_webs(self):
        for web in many_webs():
            fars = slow_fars(web)
            pieces = sorted({tuple(b for b in range(web[0]) if fars[a][b] is not None) for a in range(web[0])})
            self.assertTrue(same_kind(pieces_of(web), pieces))


class Within(unittest.TestCase):
    """2.4"""

    def test_places_alone_numbered_from_0(self):
        web = (6, ((0, 1), (1, 3), (1, 5), (2, 4), (3, 5)))
        self.assertTrue(same_kind(within(web, (1, 3, 5)), full_web(3)))
        self.assertTrue(same_kind(within(web, (0, 1, 2, 4)), (4, ((0, 1), (2, 3)))))
        self.assertTrue(same_kind(within(web, (4,)), (1, ())))
        self.assertEqual(within(web, (0, 1, 2, 3, 4, 5)), web)

    def test_within_many_webs(self):
        for web in small_webs() + webs_of(5)[::7]:
            for size in range(1, web[0] + 1):
                for places in itertools.combinations(range(web[0]), size):
                    ties = tuple((i, j) for i, j in pairs_of(size) if (places[i], places[j]) in web[1])
                    self.assertTrue(same_kind(within(web, places), (size, ties)))

    def test_what_is_no_rising_tuple_of_places(self):
        wrong = [(), [0], [0, 1], (1, 0), (0, 0), (0, 3), (-1, 0), (0, True), (False,), (True,), (0, None), (0, "1"), 0,
                 "0", {0: 1}, ((0,),), (0, (1,)), (3,), (0, 1, 2, 3), (0, 2, 1), (0, [1])]
        for thing in NO_THINGS + wrong:
            with self.assertRaises(NoPlace, msg=repr(thing)):
                within(FULL3, thing)


class Beside(unittest.TestCase):
    """2.4"""

    def test_the_second_follows_behind(self):
        self.assertTrue(same_kind(beside(STAR3, (2, ((0, 1),))), (5, ((0, 1), (0, 2), (3, 4)))))
        self.assertEqual(beside((2, ((0, 1),)), STAR3), (5, ((0, 1), (2, 3), (2, 4))))
        self.assertEqual(beside((1, ()), (1, ())), (2, ()))
        self.assertEqual(beside((1, ()), full_web(5)), (6, tuple((a + 1, b + 1) for a, b in pairs_of(5))))

    def test_both_are_within(self):
        for one in small_webs()[::3]:
            for other in small_webs()[::2]:
                if one[0] + other[0] <= 6:
                    both = beside(one, other)
                    places = tuple(range(both[0]))
                    self.assertEqual(within(both, places[:one[0]]), one)
                    self.assertEqual(within(both, places[one[0]:]), other)
                    self.assertEqual(len(both[1]), len(one[1]) + len(other[1]))

    def test_six_places_and_more(self):
        self.assertEqual(beside((3, ()), (3, ())), (6, ()))
        for one, other in ((1, 6), (6, 1), (4, 3), (6, 6), (5, 5)):
            with self.assertRaises(TooGreat) as caught:
                beside((one, ()), (other, ()))
            self.assertEqual((caught.exception.many, caught.exception.most), (one + other, 6))


class So(unittest.TestCase):
    """2.5"""

    def test_a_root_just_where_nothing_differs(self):
        for web, other in pairs_of_webs():
            good = root_good(web, other)
            self.assertEqual(good, differences(web, other) == ((), ()))
            self.assertEqual(good, first_wrong(web, other) is None)

    def test_roots_beside_one_another(self):
        for one in small_webs()[::2]:
            for other in small_webs():
                if one[0] + other[0] <= 6:
                    self.assertIs(root_good(beside(two_step(one), two_step(other)), beside(one, other)), True)

    def test_a_web_has_a_root_just_where_its_pieces_have(self):
        for web in many_webs():
            pieces = [within(web, piece) for piece in pieces_of(web)]
            self.assertEqual(bool(slow_roots(web)), all(slow_roots(piece) for piece in pieces))


if __name__ == "__main__":
    unittest.main()
