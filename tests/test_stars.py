"""Points 6.1 to 6.5: rootwebs/stars.py."""

import itertools
import unittest

from rootwebs.errors import NoRoot
from rootwebs.looks import root_good
from rootwebs.roots import first_root, roots_many
from rootwebs.stars import (
    first_stars, great_knots, held_many, holds_good, joined_by, knot_good, knots_many, stars_good, stars_of, web_by,
)
from rootwebs.webs import two_step
from tests.helper import (
    NO_THINGS, fields_of_too_great, full_web, is_one_of, many_webs, nested, path_web, roots_table, same_kind,
    slow_knots, slow_roots, slow_two_step, small_webs, spoilt, tied, tuples_of, webs_of, webs_to_try,
)

PATH3 = path_web(3)
FULL3 = full_web(3)
FULL6 = full_web(6)
STARS3 = ((0, 1), (0, 1, 2), (1, 2))
NO_STARS = NO_THINGS + [
    (), ((),), ((1,),), ((0, 0),), ((0,), (0,)), ((0, 1), (1,)), ((0,), (0, 1)), ((1,), (0,)), ((0, 1), (1, 0)),
    ((1, 0), (0, 1)), [(0,)], ([0],), ((0, 1), [0, 1]), ((False,),), ((0, True), (0, 1)), ((0, 1), (False, 1)),
    ((0, 2), (1,)), ((-1, 0),), ((0, 1),), ((0, 10 ** 39),), (0,), (0, 1), ((0, None),), ((0, "1"), (0, 1)), {0: (0,)},
    (((0,),),), nested((0,), 3), tuple((place,) for place in range(7)), STARS3 + (None,), STARS3[:2], STARS3[1:],
    ((0, 1, 2), (0, 1), (2,)), ((0, 1, 2), (1,), (2,)), ((0, 1), (0, 1, 2), (2,)), "0", ("0",), ((0,), None), (None,),
]


def slow_stars(web):
    return tuple(tuple(b for b in range(web[0]) if a == b or tied(web, a, b)) for a in range(web[0]))


def slow_holds(web, stars):
    """Straight from the words, of what is stars."""
    knots = slow_knots(web)
    return (len(stars) == web[0] and all(star in knots for star in stars)
            and all(any(a in star and b in star for star in stars) for a, b in web[1]))


def slow_joined(stars):
    pairs = itertools.combinations(range(len(stars)), 2)
    return (len(stars), tuple((a, b) for a, b in pairs if any(a in star and b in star for star in stars)))


class Knots(unittest.TestCase):
    """6.1"""

    def test_some(self):
        web = (4, ((0, 1), (0, 2), (1, 2), (2, 3)))
        for knot in ((0,), (3,), (0, 1), (2, 3), (0, 1, 2)):
            self.assertIs(knot_good(web, knot), True)
        for places in ((0, 3), (1, 3), (0, 1, 2, 3), (1, 2, 3), (), (1, 0), (0, 0), (2, 1, 0), (0, 1, 1), (4,), (-1,)):
            self.assertIs(knot_good(web, places), False)
        self.assertTrue(same_kind(great_knots(web), [(0, 1, 2), (2, 3)]))
        self.assertTrue(same_kind(knots_many(web), 4 + 4 + 1))

    def test_one_place_no_ties_and_all_ties(self):
        self.assertTrue(same_kind(great_knots((1, ())), [(0,)]))
        self.assertTrue(same_kind(knots_many((1, ())), 1))
        self.assertTrue(same_kind(great_knots((6, ())), [(0,), (1,), (2,), (3,), (4,), (5,)]))
        self.assertEqual(knots_many((6, ())), 6)
        self.assertTrue(same_kind(great_knots(FULL6), [(0, 1, 2, 3, 4, 5)]))
        self.assertEqual(knots_many(FULL6), 63)
        self.assertIs(knot_good(FULL6, (0, 1, 2, 3, 4, 5)), True)

    def test_all_places_in_all_orders(self):
        for web in small_webs() + webs_of(5)[::37] + webs_of(6)[::2999]:
            knots = set(slow_knots(web))
            for size in range(web[0] + 1):
                for places in itertools.permutations(range(web[0]), size):
                    self.assertIs(knot_good(web, places), places in knots)
            for places in itertools.product(range(-1, web[0] + 1), repeat=3):
                self.assertIs(knot_good(web, places), places in knots)

    def test_great_ones_and_how_many(self):
        for web in many_webs():
            knots = slow_knots(web)
            great = sorted(knot for knot in knots if not any(set(knot) < set(other) for other in knots))
            self.assertTrue(same_kind(great_knots(web), great))
            self.assertTrue(same_kind(knots_many(web), len(knots)))

    def test_wrong_things(self):
        for web, knot in ((FULL3, (0, 1, 2)), (PATH3, (0, 1)), (FULL6, (1, 3, 5)), ((1, ()), (0,))):
            knots = slow_knots(web)
            self.assertIs(knot_good(web, knot), True)
            for thing in spoilt(knot):
                self.assertIs(knot_good(web, thing), is_one_of(thing, knots), thing)
        for thing in NO_THINGS + [[0], [0, 1], (False,), (True,), (0, True), (False, 1), ((0,),), ((0, 1),), (0, (1,)),
                                  0, 1, "0", "01", {0: 1}, (), (0, None), (0, "1"), (0, 1, 2, 3), (0, 10 ** 39)]:
            for web in (FULL3, (1, ()), (2, ((0, 1),))):
                self.assertIs(knot_good(web, thing), False, thing)


class Stars(unittest.TestCase):
    """6.2"""

    def test_some(self):
        self.assertIs(stars_good(STARS3), True)
        self.assertTrue(same_kind(stars_of(PATH3), STARS3))
        self.assertTrue(same_kind(web_by(STARS3), PATH3))
        self.assertIs(stars_good(((0,),)), True)
        self.assertTrue(same_kind(stars_of((1, ())), ((0,),)))
        self.assertTrue(same_kind(web_by(((0,),)), (1, ())))

    def test_six_places_and_seven(self):
        six = tuple((place,) for place in range(6))
        self.assertIs(stars_good(six), True)
        self.assertTrue(same_kind(web_by(six), (6, ())))
        self.assertIs(stars_good(((0, 1, 2, 3, 4, 5),) * 6), True)
        self.assertTrue(same_kind(web_by(((0, 1, 2, 3, 4, 5),) * 6), FULL6))
        for seven in (six + ((6,),), (tuple(range(7)),) * 7):
            self.assertIs(stars_good(seven), False)
            for call in (web_by, joined_by):
                with self.assertRaises(NoRoot):
                    call(seven)

    def test_stars_of_webs(self):
        for web in many_webs():
            stars = stars_of(web)
            self.assertTrue(same_kind(stars, slow_stars(web)))
            self.assertIs(stars_good(stars), True)
            self.assertTrue(same_kind(web_by(stars), web))

    def test_all_tuples_of_rising_tuples(self):
        for many in (1, 2, 3, 4):
            good = {slow_stars(web) for web in webs_of(many)}
            found = 0
            for thing in itertools.product(tuples_of(many), repeat=many):
                self.assertIs(stars_good(thing), thing in good)
                found += thing in good
            self.assertEqual(found, len(good))

    def test_places_of_greater_numbers(self):
        self.assertIs(stars_good(((0, 2), (1,))), False)
        self.assertIs(stars_good(((0, 2), (1,), (0, 2))), True)

    def test_wrong_things(self):
        good = [slow_stars(web) for web in small_webs() + [(6, ((0, 5),))]]
        for stars in (STARS3, ((0,),), ((0, 1), (0, 1)), slow_stars((6, ((0, 5),)))):
            self.assertIs(stars_good(stars), True)
            for thing in spoilt(stars):
                known = is_one_of(thing, good)
                self.assertIs(stars_good(thing), known, thing)
                if not known:
                    for call in (web_by, joined_by):
                        with self.assertRaises(NoRoot, msg=repr(thing)):
                            call(thing)

    def test_whatever_is_handed_in(self):
        for thing in NO_STARS:
            self.assertIs(stars_good(thing), False, thing)
            for call in (web_by, joined_by):
                with self.assertRaises(NoRoot, msg=repr(thing)):
                    call(thing)


class Holding(unittest.TestCase):
    """6.3"""

    def test_some(self):
        self.assertIs(holds_good(FULL3, STARS3), True)
        self.assertIs(holds_good(PATH3, STARS3), False)
        self.assertIs(holds_good(FULL3, ((0, 1), (0, 1), (2,))), False)
        self.assertTrue(same_kind(joined_by(STARS3), FULL3))
        self.assertTrue(same_kind(joined_by(((0, 1), (0, 1), (2,))), (3, ((0, 1),))))

    def test_as_many_as_its_places(self):
        self.assertIs(holds_good((1, ()), ((0,),)), True)
        self.assertIs(holds_good((2, ()), ((0,),)), False)
        self.assertIs(holds_good((2, ((0, 1),)), ((0, 1), (0, 1))), True)
        self.assertIs(holds_good((3, ((0, 1),)), ((0, 1), (0, 1))), False)
        self.assertIs(holds_good((2, ((0, 1),)), ((0, 1), (0, 1), (2,))), False)
        self.assertIs(holds_good((6, ()), tuple((place,) for place in range(6))), True)

    def test_more_than_twelve_ties(self):
        star = (6, tuple((0, place) for place in range(1, 6)))
        self.assertIs(holds_good(FULL6, slow_stars(star)), True)
        self.assertIs(holds_good(FULL6, slow_stars(FULL6)), True)
        self.assertIs(holds_good((6, FULL6[1][:13]), slow_stars(star)), False)
        self.assertTrue(same_kind(joined_by(slow_stars(star)), FULL6))

    def test_against_the_words(self):
        pairs = [pair for many in (1, 2, 3, 4) for pair in itertools.product(webs_of(many), repeat=2)]
        pairs += itertools.product(webs_of(5)[::31], webs_of(5)[::29])
        pairs += itertools.product(small_webs()[::3], small_webs()[::5])
        pairs += [(two_step(web), web) for web in many_webs()]
        held = 0
        for web, other in pairs:
            stars = slow_stars(other)
            good = slow_holds(web, stars)
            self.assertIs(holds_good(web, stars), good, (web, stars))
            held += good
        self.assertGreater(held, 1000)

    def test_joined_by_against_the_words(self):
        for web in many_webs():
            stars = slow_stars(web)
            self.assertTrue(same_kind(joined_by(stars), slow_joined(stars)))

    def test_wrong_things(self):
        good = [slow_stars(web) for web in small_webs()]
        for stars in (STARS3, ((0,),), ((0, 1), (0, 1))):
            for thing in spoilt(stars):
                for web in (slow_joined(stars), (3, ()), (1, ())):
                    held = is_one_of(thing, good) and slow_holds(web, thing)
                    self.assertIs(holds_good(web, thing), held, thing)

    def test_whatever_is_handed_in(self):
        for thing in NO_STARS:
            for web in (FULL3, (1, ()), (2, ()), FULL6):
                self.assertIs(holds_good(web, thing), False, thing)


class FirstStars(unittest.TestCase):
    """6.4"""

    def test_some(self):
        self.assertTrue(same_kind(first_stars(FULL3), ((0, 1, 2), (0, 1), (0, 2))))
        self.assertTrue(same_kind(held_many(FULL3), 4))
        self.assertIsNone(first_stars(PATH3))
        self.assertTrue(same_kind(held_many(PATH3), 0))

    def test_one_place_and_no_ties(self):
        for many in range(1, 7):
            self.assertTrue(same_kind(first_stars((many, ())), tuple((place,) for place in range(many))))
            self.assertTrue(same_kind(held_many((many, ())), 1))

    def test_the_stars_of_the_first_root(self):
        for web in webs_to_try():
            roots = slow_roots(web)
            self.assertTrue(same_kind(first_stars(web), slow_stars(roots[0]) if roots else None))
            self.assertTrue(same_kind(held_many(web), len(roots)))

    def test_how_many_stars_hold_a_web(self):
        for many, by in ((1, 1), (2, 1), (3, 1), (4, 1), (5, 61)):
            stars = [slow_stars(web) for web in webs_of(many)]
            for web in webs_of(many)[::by] + [full_web(many)]:
                self.assertEqual(held_many(web), sum(slow_holds(web, one) for one in stars))

    def test_more_than_300(self):
        self.assertEqual(held_many(full_web(5)), 368)
        self.assertEqual(first_stars(full_web(5)), ((0, 1, 2, 3, 4), (0, 1), (0, 2), (0, 3), (0, 4)))

    def test_twelve_ties_and_thirteen(self):
        for web in [web for web in roots_table(6) if len(web[1]) == 12][::9]:
            self.assertEqual(held_many(web), len(slow_roots(web)))
            self.assertEqual(first_stars(web), slow_stars(slow_roots(web)[0]))
        for many in (13, 14, 15):
            for ties in itertools.combinations(FULL6[1], many):
                for call in (first_stars, held_many):
                    self.assertEqual(fields_of_too_great(self, call, (6, ties)), (many, 12))


class So(unittest.TestCase):
    """6.5"""

    def test_stars_hold_a_web_just_where_the_web_by_them_is_a_root(self):
        pairs = [pair for many in (1, 2, 3, 4) for pair in itertools.product(webs_of(many), repeat=2)]
        pairs += itertools.product(webs_of(5)[::41], webs_of(5)[::43])
        pairs += [(web, root) for web in webs_to_try()[::5] for root in slow_roots(web)[:2]]
        pairs += itertools.product(webs_of(6)[::2003], webs_of(6)[::1999])
        for web, other in pairs:
            stars = stars_of(other)
            self.assertEqual(holds_good(web, stars), root_good(web, web_by(stars)))

    def test_joined_by_tells_the_two_step_web(self):
        for web in many_webs():
            stars = slow_stars(web)
            self.assertEqual(joined_by(stars), two_step(web_by(stars)))
            self.assertEqual(joined_by(stars), slow_two_step(web))

    def test_as_many_roots_as_stars_hold_it(self):
        for web in webs_to_try():
            self.assertEqual(held_many(web), roots_many(web))
            stars = first_stars(web)
            self.assertEqual(stars is None, first_root(web) is None)
            if stars is not None:
                self.assertIs(holds_good(web, stars), True)
                self.assertEqual(web_by(stars), first_root(web))


if __name__ == "__main__":
    unittest.main()
