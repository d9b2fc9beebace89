"""Points 0.2 and 0.4: what is handed in or told is not changed, and lists that are told are the asker's own."""

import copy
import inspect
import unittest

from rootwebs import desk, looks, mates, papers, rings, roots, stars, steps, texts, trees, webs
from rootwebs.errors import NoNumber, RootError, TooGreat
from tests.helper import NO_THINGS, full_web, path_web, ring_web, same_kind, small_webs, trees_of, webs_of

FULL4 = full_web(4)
HALF = (4, ((0, 1), (0, 2), (1, 2), (2, 3)))
PAPER = ("cases", ("lost", 0), ("cases", ("lost", 1), ("more", 0, 1, 2)))
ROWS = ("fresh 4", "tie 0 1", "tie 2 1", "step 2", "roots", "first", "root", "back", "fewest", "trees", "cut 0 2", "ties",
        "far 0 3", "far 0 2", "star 1", "still", "pieces", "knots", "kinds", "shown", "back")
# The interface, each function with how many things are handed in.
INTERFACE = {
    webs: {"web_good": 1, "web_of": 2, "far_of": 3, "star_of": 2, "steps_web": 2, "two_step": 1, "still_from": 1,
           "is_still": 1, "renamed": 2},
    looks: {"root_good": 2, "differences": 2, "first_wrong": 2, "steps_from": 3, "show_good": 3, "first_show": 2,
            "pieces_of": 1, "within": 2, "beside": 2},
    roots: {"roots_many": 1, "first_root": 1, "all_roots": 1, "ties_tally": 1, "fewest_root": 1, "must_have": 1,
            "may_have": 1, "roots_begun": 2, "next_truths": 2},
    papers: {"paper_good": 3, "paper_for": 2, "leaves_of": 3, "forced": 2},
    trees: {"tree_good": 1, "word_of": 1, "tree_by": 2, "tree_roots": 1, "first_tree": 1, "bar_good": 2, "bar_of": 1,
            "alike_trees": 2},
    stars: {"knot_good": 2, "great_knots": 1, "knots_many": 1, "stars_good": 1, "stars_of": 1, "web_by": 1,
            "holds_good": 2, "joined_by": 1, "first_stars": 1, "held_many": 1},
    rings: {"ring_good": 2, "least_ring": 1, "first_ring": 1, "free_roots": 2, "free_many": 2, "first_free": 2,
            "spare_ties": 1, "thinned": 1},
    steps: {"root_by_good": 3, "roots_by_many": 2, "first_by": 2, "all_by": 2, "steps_of": 1, "steps_list": 1,
            "chain_good": 2, "first_chain": 2},
    mates: {"are_mates": 2, "mates_of": 1, "mates_many": 1, "all_webs": 1, "rooted_many": 1, "rooted_table": 1,
            "kinds_table": 1, "fewest_mate": 1, "mate_span": 1},
    texts: {"web_shown": 1, "web_read": 1},
}


def told_rows(rows):
    """What a new desk answers to the rows, one by one."""
    told = desk.Desk()
    return tuple([told.say(row) for row in rows])


def questions():
    """Calls, as tuples of a function and its arguments, of every function of all modules."""
    return (questions_of_webs() + questions_of_papers_and_trees() + questions_of_stars_and_rings()
            + questions_of_steps_and_mates())


def questions_of_steps_and_mates():
    asked = [(steps.root_by_good, FULL4, 2, HALF), (steps.root_by_good, FULL4, 3, [4, []]),
             (steps.chain_good, FULL4, (FULL4, HALF)), (steps.chain_good, FULL4, [FULL4, [HALF]]),
             (texts.web_read, "web 4 2\ntie 0 1\ntie 2 3"), (told_rows, ROWS), (told_rows, ROWS[:5] + ("root",))]
    asked += [(call, many) for call in (mates.all_webs, mates.rooted_many, mates.rooted_table, mates.kinds_table)
              for many in (1, 2, 3, 4)]
    for web in (HALF, FULL4, path_web(4), (4, ()), (1, ()), (5, ring_web(5)[1][:4])):
        asked += [(call, web) for call in (
            steps.steps_of, steps.steps_list, texts.web_shown, mates.mates_of, mates.mates_many, mates.fewest_mate,
            mates.mate_span,
        )]
        asked += [(mates.are_mates, web, other) for other in (HALF, FULL4, path_web(5))]
        asked += [(call, web, k) for call in (steps.roots_by_many, steps.first_by, steps.all_by) for k in (1, 2, 3, 5)]
        asked += [(steps.first_chain, web, many) for many in (1, 2, 3)]
    return asked


def questions_of_papers_and_trees():
    path = path_web(3)
    asked = [(papers.paper_good, path, (), PAPER), (papers.paper_good, path, (), list(PAPER)),
             (papers.leaves_of, path, (), PAPER), (trees.tree_by, 4, (1, 1)), (trees.word_of, path_web(5)),
             (trees.alike_trees, path_web(4), (4, ((0, 2), (0, 3), (1, 2)))), (trees.tree_good, [4, []]),
             (trees.bar_good, ring_web(5), ("ring", (0, 1, 2, 3, 4))), (trees.bar_good, HALF, ["ring", [0, 1, 2]])]
    for web in (HALF, FULL4, path, path_web(4), (4, ()), ring_web(5)):
        asked += [(call, web, begun) for call in (papers.paper_for, papers.forced)
                  for begun in ((), (False, False)[:len(web[1])], (True,) * len(web[1]))]
        asked += [(call, web) for call in (trees.tree_good, trees.tree_roots, trees.first_tree, trees.bar_of)]
    return asked


def questions_of_stars_and_rings():
    seen = ((0, 1), (0, 1, 2), (1, 2))
    asked = [(stars.knot_good, HALF, (0, 1, 2)), (stars.knot_good, HALF, [0, 1]), (stars.stars_good, seen),
             (stars.stars_good, [[0], [1]]), (stars.web_by, seen), (stars.joined_by, seen),
             (stars.holds_good, full_web(3), seen), (stars.holds_good, (2, ()), [[0], [1]]),
             (rings.ring_good, HALF, (0, 1, 2)), (rings.ring_good, HALF, [0, 1, 2])]
    for web in (HALF, FULL4, path_web(4), (4, ()), ring_web(6)):
        asked += [(call, web) for call in (
            stars.great_knots, stars.knots_many, stars.stars_of, stars.first_stars, stars.held_many,
            rings.least_ring, rings.first_ring, rings.spare_ties, rings.thinned,
        )]
        asked += [(call, web, k) for call in (rings.free_roots, rings.free_many, rings.first_free) for k in (2, 3, 6)]
    return asked


def questions_of_webs():
    """Those of the modules of points 1.1 to 3.5."""
    asked = [(webs.web_of, 4, [(3, 0), (0, 1), (1, 0)]), (webs.far_of, HALF, 0, 3), (webs.star_of, HALF, 2),
             (webs.renamed, HALF, (3, 1, 0, 2)), (looks.steps_from, HALF, 0, 3), (looks.steps_from, HALF, 1, 2),
             (looks.within, HALF, (0, 2, 3)), (looks.beside, HALF, (2, ((0, 1),))),
             (looks.show_good, FULL4, HALF, looks.first_show(FULL4, HALF))]
    for web in (HALF, FULL4, path_web(4), (4, ())):
        asked += [(call, web) for call in (
            webs.web_good, webs.two_step, webs.still_from, webs.is_still, looks.pieces_of, roots.roots_many,
            roots.first_root, roots.all_roots, roots.ties_tally, roots.fewest_root, roots.must_have, roots.may_have,
        )]
        asked += [(call, web, HALF) for call in (
            looks.root_good, looks.differences, looks.first_wrong, looks.first_show,
        )]
        asked += [(webs.steps_web, web, k) for k in (1, 2, 6)]
        asked += [(call, web, ()) for call in (roots.roots_begun, roots.next_truths)]
    return asked


def wrong_questions():
    """Calls with wrong things, each of which is refused or answered with False."""
    asked = []
    for thing in NO_THINGS:
        asked += [(webs.web_good, thing), (webs.web_of, thing, []), (webs.web_of, 3, [thing]),
                  (webs.far_of, HALF, thing, 0), (webs.star_of, HALF, thing), (webs.steps_web, HALF, thing),
                  (webs.renamed, HALF, thing), (looks.root_good, HALF, thing), (looks.differences, HALF, thing),
                  (looks.first_wrong, HALF, thing), (looks.steps_from, HALF, 0, thing),
                  (looks.show_good, FULL4, HALF, thing), (looks.first_show, HALF, thing), (looks.within, HALF, thing)]
        asked += [(papers.paper_good, HALF, (), thing), (papers.leaves_of, HALF, (), thing), (trees.tree_good, thing),
                  (trees.word_of, thing), (trees.tree_by, thing, (0,)), (trees.tree_by, 4, thing),
                  (trees.bar_good, HALF, thing), (trees.alike_trees, thing, path_web(3)),
                  (trees.alike_trees, path_web(3), thing), (stars.knot_good, HALF, thing), (stars.stars_good, thing),
                  (stars.web_by, thing), (stars.joined_by, thing), (stars.holds_good, HALF, thing),
                  (rings.ring_good, HALF, thing), (rings.free_roots, HALF, thing), (rings.free_many, HALF, thing),
                  (rings.first_free, HALF, thing)]
        asked += [(steps.root_by_good, HALF, thing, HALF), (steps.root_by_good, HALF, 2, thing),
                  (steps.roots_by_many, HALF, thing), (steps.first_by, HALF, thing), (steps.all_by, HALF, thing),
                  (steps.chain_good, HALF, thing), (steps.first_chain, HALF, thing), (mates.all_webs, thing),
                  (mates.rooted_many, thing), (mates.rooted_table, thing), (mates.kinds_table, thing),
                  (texts.web_read, thing), (told_rows, [thing]), (told_rows, ["fresh 3", "tie 0 1", thing])]
        if thing != (True, False):
            asked += [(roots.roots_begun, HALF, thing), (roots.next_truths, HALF, thing),
                      (papers.paper_for, HALF, thing), (papers.forced, HALF, thing),
                      (papers.paper_good, path_web(3), thing, PAPER), (papers.leaves_of, path_web(3), thing, PAPER)]
    return asked


def answer(question):
    return question[0](*question[1:])


def spoil(told):
    """Changes each list that was told, those within it too, and tells how many there were."""
    if not isinstance(told, (list, tuple)):
        return 0
    lists = sum(spoil(thing) for thing in told)
    if isinstance(told, list):
        lists += 1
        told.append("spoilt")
        told.reverse()
    return lists


def refusal(question):
    """The class and the fields of a refusal."""
    try:
        return answer(question)
    except RootError as error:
        return (type(error), vars(error))


class Asker(unittest.TestCase):
    def test_nothing_that_is_handed_in_is_changed(self):
        for question in questions():
            before = copy.deepcopy(question[1:])
            answer(question)
            self.assertTrue(same_kind(question[1:], before))

    def test_nothing_that_is_refused_is_changed(self):
        for question in wrong_questions():
            before = copy.deepcopy(question[1:])
            try:
                told = answer(question)
            except RootError:
                told = False
            self.assertIs(told, False)
            self.assertTrue(same_kind(question[1:], before))

    def test_every_function_of_the_interface_is_asked(self):
        asked = {question[0] for question in questions()}
        for module, names in INTERFACE.items():
            for name in names:
                self.assertIn(getattr(module, name), asked)

    def test_the_interface_is_as_it_is_written(self):
        for module, names in INTERFACE.items():
            for name, many in names.items():
                self.assertEqual(len(inspect.signature(getattr(module, name)).parameters), many, name)
        self.assertEqual(len(inspect.signature(desk.Desk).parameters), 0)
        self.assertEqual(len(inspect.signature(desk.Desk().say).parameters), 1)

    def test_the_same_question_has_the_same_answer(self):
        first = [answer(question) for question in questions()]
        again = [answer(question) for question in reversed(questions())]
        self.assertTrue(same_kind(first, again[::-1]))

    def test_refusals_in_between_change_no_answer(self):
        first = [answer(question) for question in questions()]
        self.test_nothing_that_is_refused_is_changed()
        self.assertTrue(same_kind(first, [answer(question) for question in questions()]))

    def test_lists_that_are_told_are_new(self):
        lists = 0
        for question in questions():
            told = answer(question)
            before = copy.deepcopy(told)
            lists += spoil(told)
            self.assertTrue(same_kind(answer(question), before))
        self.assertGreater(lists, 100)

    def test_spoiling_one_answer_changes_no_other(self):
        first = [answer(question) for question in questions()]
        before = copy.deepcopy(first)
        for question in questions():
            spoil(answer(question))
        self.assertTrue(same_kind(first, before))
        self.assertTrue(same_kind([answer(question) for question in questions()], before))

    def test_a_desk_is_not_changed_by_what_else_is_asked(self):
        kept = desk.Desk()
        for row in ROWS:
            kept.say(row)
        before = kept.say("shown")
        for question in questions():
            answer(question)
        self.test_nothing_that_is_refused_is_changed()
        self.assertEqual(kept.say("shown"), before)

    def test_a_list_handed_in_may_change_behind_the_call(self):
        things = [(0, 1)]
        web = webs.web_of(3, things)
        things.append((1, 2))
        things[0] = None
        self.assertEqual(web, (3, ((0, 1),)))

    def test_what_was_told_may_be_handed_in_again(self):
        for web in webs_of(4):
            for root in roots.all_roots(web):
                self.assertIs(webs.web_good(root), True)
                self.assertEqual(webs.web_of(4, list(root[1])), root)
                self.assertIs(looks.show_good(web, root, looks.first_show(web, root)), True)
            for piece in looks.pieces_of(web):
                self.assertIs(webs.web_good(looks.within(web, piece)), True)
            self.assertEqual(webs.renamed(web, webs.star_of(FULL4, 0)), web)

    def test_what_papers_and_trees_told_may_be_handed_in_again(self):
        for web in webs_of(4):
            paper = papers.paper_for(web, ())
            if paper is not None:
                self.assertIs(papers.paper_good(web, (), paper), True)
                self.assertGreater(papers.leaves_of(web, (), paper), 0)
            bar = trees.bar_of(web)
            self.assertTrue(bar is None or trees.bar_good(web, bar))
            for tree in trees.tree_roots(web):
                self.assertEqual(trees.tree_by(4, trees.word_of(tree)), tree)
                names = trees.alike_trees(tree, trees.first_tree(web))
                self.assertEqual(webs.renamed(tree, names), trees.first_tree(web))
        for tree in trees_of(5):
            self.assertIs(looks.root_good(webs.two_step(tree), trees.tree_by(5, trees.word_of(tree))), True)

    def test_what_stars_and_rings_told_may_be_handed_in_again(self):
        for web in webs_of(4):
            for knot in stars.great_knots(web):
                self.assertIs(stars.knot_good(web, knot), True)
                self.assertEqual(looks.within(web, knot), full_web(len(knot)))
            self.assertEqual(stars.web_by(stars.stars_of(web)), web)
            held = stars.first_stars(web)
            self.assertTrue(held is None or stars.holds_good(web, held))
            ring = rings.first_ring(web)
            self.assertTrue(ring is None or rings.ring_good(web, ring))
            self.assertEqual(webs.two_step(rings.thinned(web)), webs.two_step(web))
            for root in rings.free_roots(web, 3):
                self.assertIs(looks.root_good(web, root), True)

    def test_what_steps_and_mates_told_may_be_handed_in_again(self):
        for web in small_webs():
            for k in (1, 2, 3, 5):
                for root in steps.all_by(web, k):
                    self.assertIs(steps.root_by_good(web, k, root), True)
                    self.assertEqual(texts.web_read(texts.web_shown(root)), root)
            for many in (1, 2, 3):
                chain = steps.first_chain(web, many)
                self.assertTrue(chain is None or steps.chain_good(web, chain))
            for stepped in steps.steps_list(web):
                self.assertIs(webs.web_good(stepped), True)
            for mate in mates.mates_of(web)[:4]:
                self.assertIs(mates.are_mates(web, mate), True)
        for many in range(1, 5):
            for web, mated in mates.kinds_table(many):
                self.assertEqual(roots.roots_many(web), mated)
                self.assertIn(web, mates.all_webs(many))


class Refusals(unittest.TestCase):
    """0.4"""

    def test_each_stands_straight_under_root_error(self):
        for question in wrong_questions():
            told = refusal(question)
            if told is not False:
                self.assertEqual(told[0].__bases__, (RootError,))

    def test_a_refusal_is_the_same_each_time(self):
        first = [refusal(question) for question in wrong_questions()]
        for question in questions():
            answer(question)
        self.assertEqual([refusal(question) for question in reversed(wrong_questions())], first[::-1])

    def test_which_goes_where_several_are_due(self):
        thirteen = (6, full_web(6)[1][:13])
        many = (TooGreat, {"many": 13, "most": 12})
        for thing in NO_THINGS:
            for call in (steps.roots_by_many, steps.first_by, steps.all_by, steps.first_chain, rings.free_roots,
                         rings.free_many, rings.first_free, roots.roots_begun, roots.next_truths, papers.paper_for,
                         papers.forced):
                self.assertEqual(refusal((call, thirteen, thing)), many)
            for call in (papers.paper_good, papers.leaves_of):
                self.assertEqual(refusal((call, thirteen, thing, thing)), many)
            for call in (steps.all_by, rings.free_roots):
                self.assertEqual(refusal((call, full_web(5), thing)), (NoNumber, {}))
            self.assertEqual(refusal((steps.root_by_good, thirteen, thing, thing)), (NoNumber, {}))


if __name__ == "__main__":
    unittest.main()
