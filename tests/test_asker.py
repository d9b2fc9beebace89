"""Point 0.2: what is handed in or told is not changed, and lists that are told are the asker's own."""

import copy
import unittest

from rootwebs import looks, papers, rings, roots, stars, trees, webs
from rootwebs.errors import RootError
from tests.helper import NO_THINGS, full_web, path_web, ring_web, same_kind, trees_of, webs_of

FULL4 = full_web(4)
HALF = (4, ((0, 1), (0, 2), (1, 2), (2, 3)))
PAPER = ("cases", ("lost", 0), ("cases", ("lost", 1), ("more", 0, 1, 2)))


def questions():
    """Calls, as tuples of a function and its arguments, of every function of all modules."""
    return questions_of_webs() + questions_of_papers_and_trees() + questions_of_stars_and_rings()


def questions_of_papers_and_trees():
    path = path_web(3)
    asked = [(papers.paper_good, path, (), PAPER), (papers.paper_good, path, (), list(PAPER)),
             (papers.leaves_of, path, (), PAPER), (trees.tree_by, 4, (1, 1)), (trees.word_of, path_web(5)),
             (trees.alike_trees, path_web(4), (4, ((0, 2), (0, 3), (1, 2)))), (trees.tree_good, [4, []]),
             (trees.bar_good, ring_web(5), ("ring", (0, 1, 2, 3, 4))), (trees.bar_good, HALF, ["ring", [0, 1, 2]])]
    for web in (HALF, FULL4, path, path_web(4), (4, ()), ring_web(5)):
        asked += [(call, web, begun) for call in (papers.paper_for, papers.forced)
                  for begun in ((), (False, False)[:len(web[1])], (True,) * len(web[1]))]
        asked += [(call, web) for call in (trees.tree_good, trees.tree_roots, trees.first_tree, trees.bar_of)]
    return asked


def questions_of_stars_and_rings():
    seen = ((0, 1), (0, 1, 2), (1, 2))
    asked = [(stars.knot_good, HALF, (0, 1, 2)), (stars.knot_good, HALF, [0, 1]), (stars.stars_good, seen),
             (stars.stars_good, [[0], [1]]), (stars.web_by, seen), (stars.joined_by, seen),
             (stars.holds_good, full_web(3), seen), (stars.holds_good, (2, ()), [[0], [1]]),
             (rings.ring_good, HALF, (0, 1, 2)), (rings.ring_good, HALF, [0, 1, 2])]
    for web in (HALF, FULL4, path_web(4), (4, ()), ring_web(6)):
        asked += [(call, web) for call in (
            stars.great_knots, stars.knots_many, stars.stars_of, stars.first_stars, stars.held_many,
            rings.least_ring, rings.first_ring, rings.spare_ties, rings.thinned,
        )]
        asked += [(call, web, k) for call in (rings.free_roots, rings.free_many, rings.first_free) for k in (2, 3, 6)]
    return asked


def questions_of_webs():
    """Those of the modules of points 1.1 to 3.5."""
    asked = [(webs.web_of, 4, [(3, 0), (0, 1), (1, 0)]), (webs.far_of, HALF, 0, 3), (webs.star_of, HALF, 2),
             (webs.renamed, HALF, (3, 1, 0, 2)), (looks.steps_from, HALF, 0, 3), (looks.steps_from, HALF, 1, 2),
             (looks.within, HALF, (0, 2, 3)), (looks.beside, HALF, (2, ((0, 1),))),
             (looks.show_good, FULL4, HALF, looks.first_show(FULL4, HALF))]
    for web in (HALF, FULL4, path_web(4), (4, ())):
        asked += [(call, web) for call in (
            webs.web_good, webs.two_step, webs.still_from, webs.is_still, looks.pieces_of, roots.roots_many,
            roots.first_root, roots.all_roots, roots.ties_tally, roots.fewest_root, roots.must_have, roots.may_have,
        )]
        asked += [(call, web, HALF) for call in (
            looks.root_good, looks.differences, looks.first_wrong, looks.first_show,
        )]
        asked += [(webs.steps_web, web, k) for k in (1, 2, 6)]
        asked += [(call, web, ()) for call in (roots.roots_begun, roots.next_truths)]
    return asked


def wrong_questions():
    """Calls with wrong things, each of which is refused or answered with False."""
    asked = []
    for thing in NO_THINGS:
        asked += [(webs.web_good, thing), (webs.web_of, thing, []), (webs.web_of, 3, [thing]),
                  (webs.far_of, HALF, thing, 0), (webs.star_of, HALF, thing), (webs.steps_web, HALF, thing),
                  (webs.renamed, HALF, thing), (looks.root_good, HALF, thing), (looks.differences, HALF, thing),
                  (looks.first_wrong, HALF, thing), (looks.steps_from, HALF, 0, thing),
                  (looks.show_good, FULL4, HALF, thing), (looks.first_show, HALF, thing), (looks.within, HALF, thing)]
        asked += [(papers.paper_good, HALF, (), thing), (papers.leaves_of, HALF, (), thing), (trees.tree_good, thing),
                  (trees.word_of, thing), (trees.tree_by, thing, (0,)), (trees.tree_by, 4, thing),
                  (trees.bar_good, HALF, thing), (trees.alike_trees, thing, path_web(3)),
                  (trees.alike_trees, path_web(3), thing), (stars.knot_good, HALF, thing), (stars.stars_good, thing),
                  (stars.web_by, thing), (stars.joined_by, thing), (stars.holds_good, HALF, thing),
                  (rings.ring_good, HALF, thing), (rings.free_roots, HALF, thing), (rings.free_many, HALF, thing),
                  (rings.first_free, HALF, thing)]
        if thing != (True, False):
            asked += [(roots.roots_begun, HALF, thing), (roots.next_truths, HALF, thing),
                      (papers.paper_for, HALF, thing), (papers.forced, HALF, thing),
                      (papers.paper_good, path_web(3), thing, PAPER), (papers.leaves_of, path_web(3), thing, PAPER)]
    return asked


def answer(question):
    return question[0](*question[1:])


class Asker(unittest.TestCase):
    def test_nothing_that_is_handed_in_is_changed(self):
        for question in questions():
            before = copy.deepcopy(question[1:])
            answer(question)
            self.assertTrue(same_kind(question[1:], before))

    def test_nothing_that_is_refused_is_changed(self):
        for question in wrong_questions():
            before = copy.deepcopy(question[1:])
            try:
                told = answer(question)
            except RootError:
                told = False
            self.assertIs(told, False)
            self.assertTrue(same_kind(question[1:], before))

    def test_every_function_of_the_interface_is_asked(self):
        asked = {question[0] for question in questions()}
        listed = {
            papers: "paper_good paper_for leaves_of forced",
            trees: "tree_good word_of tree_by tree_roots first_tree bar_good bar_of alike_trees",
            stars: "knot_good great_knots knots_many stars_good stars_of web_by holds_good joined_by first_stars "
                   "held_many",
            rings: "ring_good least_ring first_ring free_roots free_many first_free spare_ties thinned",
        }
        for module, names in listed.items():
            for name in names.split():
                self.assertIn(getattr(module, name), asked)

    def test_the_same_question_has_the_same_answer(self):
        first = [answer(question) for question in questions()]
        again = [answer(question) for question in reversed(questions())]
        self.assertTrue(same_kind(first, again[::-1]))

    def test_refusals_in_between_change_no_answer(self):
        first = [answer(question) for question in questions()]
        self.test_nothing_that_is_refused_is_changed()
        self.assertTrue(same_kind(first, [answer(question) for question in questions()]))

    def test_lists_that_are_told_are_new(self):
        lists = 0
        for question in questions():
            told = answer(question)
            if isinstance(told, list):
                lists += 1
                before = copy.deepcopy(told)
                told.append("spoilt")
                told.reverse()
                self.assertTrue(same_kind(answer(question), before))
        self.assertGreater(lists, 50)

    def test_a_list_handed_in_may_change_behind_the_call(self):
        things = [(0, 1)]
        web = webs.web_of(3, things)
        things.append((1, 2))
        things[0] = None
        self.assertEqual(web, (3, ((0, 1),)))

    def test_what_was_told_may_be_handed_in_again(self):
        for web in webs_of(4):
            for root in roots.all_roots(web):
                self.assertIs(webs.web_good(root), True)
                self.assertEqual(webs.web_of(4, list(root[1])), root)
                self.assertIs(looks.show_good(web, root, looks.first_show(web, root)), True)
            for piece in looks.pieces_of(web):
                self.assertIs(webs.web_good(looks.within(web, piece)), True)
            self.assertEqual(webs.renamed(web, webs.star_of(FULL4, 0)), web)

    def test_what_papers_and_trees_told_may_be_handed_in_again(self):
        for web in webs_of(4):
            paper = papers.paper_for(web, ())
            if paper is not None:
                self.assertIs(papers.paper_good(web, (), paper), True)
                self.assertGreater(papers.leaves_of(web, (), paper), 0)
            bar = trees.bar_of(web)
            self.assertTrue(bar is None or trees.bar_good(web, bar))
            for tree in trees.tree_roots(web):
                self.assertEqual(trees.tree_by(4, trees.word_of(tree)), tree)
                names = trees.alike_trees(tree, trees.first_tree(web))
                self.assertEqual(webs.renamed(tree, names), trees.first_tree(web))
        for tree in trees_of(5):
            self.assertIs(looks.root_good(webs.two_step(tree), trees.tree_by(5, trees.word_of(tree))), True)

    def test_what_stars_and_rings_told_may_be_handed_in_again(self):
        for web in webs_of(4):
            for knot in stars.great_knots(web):
                self.assertIs(stars.knot_good(web, knot), True)
                self.assertEqual(looks.within(web, knot), full_web(len(knot)))
            self.assertEqual(stars.web_by(stars.stars_of(web)), web)
            held = stars.first_stars(web)
            self.assertTrue(held is None or stars.holds_good(web, held))
            ring = rings.first_ring(web)
            self.assertTrue(ring is None or rings.ring_good(web, ring))
            self.assertEqual(webs.two_step(rings.thinned(web)), webs.two_step(web))
            for root in rings.free_roots(web, 3):
                self.assertIs(looks.root_good(web, root), True)


if __name__ == "__main__":
    unittest.main()
