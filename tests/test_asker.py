"""Point 0.2: what is handed in or told is not changed, and lists that are told are the asker's own."""

import copy
import unittest

from rootwebs import looks, roots, webs
from rootwebs.errors import RootError
from tests.helper import NO_THINGS, full_web, path_web, same_kind, webs_of

FULL4 = full_web(4)
HALF = (4, ((0, 1), (0, 2), (1, 2), (2, 3)))


def questions():
    """Calls, as tuples of a function and its arguments, of every function of these modules."""
    asked = [(webs.web_of, 4, [(3, 0), (0, 1), (1, 0)]), (webs.far_of, HALF, 0, 3), (webs.star_of, HALF, 2),
             (webs.renamed, HALF, (3, 1, 0, 2)), (looks.steps_from, HALF, 0, 3), (looks.steps_from, HALF, 1, 2),
             (looks.within, HALF, (0, 2, 3)), (looks.beside, HALF, (2, ((0, 1),))),
             (looks.show_good, FULL4, HALF, looks.first_show(FULL4, HALF))]
    for web in (HALF, FULL4, path_web(4), (4, ())):
        asked += [(call, web) for call in (
            webs.web_good, webs.two_step, webs.still_from, webs.is_still, looks.pieces_of, roots.roots_many,
            roots.first_root, roots.all_roots, roots.ties_tally, roots.fewest_root, roots.must_have, roots.may_have,
        )]
        asked += [(call, web, HALF) for call in (
            looks.root_good, looks.differences, looks.first_wrong, looks.first_show,
        )]
        asked += [(webs.steps_web, web, k) for k in (1, 2, 6)]
        asked += [(call, web, ()) for call in (roots.roots_begun, roots.next_truths)]
    return asked


def wrong_questions():
    """Calls with wrong things, each of which is refused or answered with False."""
    asked = []
    for thing in NO_THINGS:
        asked += [(webs.web_good, thing), (webs.web_of, thing, []), (webs.web_of, 3, [thing]),
                  (webs.far_of, HALF, thing, 0), (webs.star_of, HALF, thing), (webs.steps_web, HALF, thing),
                  (webs.renamed, HALF, thing), (looks.root_good, HALF, thing), (looks.differences, HALF, thing),
                  (looks.first_wrong, HALF, thing), (looks.steps_from, HALF, 0, thing),
                  (looks.show_good, FULL4, HALF, thing), (looks.first_show, HALF, thing), (looks.within, HALF, thing)]
        if thing != (True, False):
            asked += [(roots.roots_begun, HALF, thing), (roots.next_truths, HALF, thing)]
    return asked


def answer(question):
    return question[0](*question[1:])


class Asker(unittest.TestCase):
    def test_nothing_that_is_handed_in_is_changed(self):
        for question in questions():
            before = copy.deepcopy(question[1:])
            answer(question)
            self.assertTrue(same_kind(question[1:], before))

    def test_nothing_that_is_refused_is_changed(self):
        for question in wrong_questions():
            before = copy.deepcopy(question[1:])
            try:
                told = answer(question)
            except RootError:
                told = False
            self.assertIs(told, False)
            self.assertTrue(same_kind(question[1:], before))

    def test_the_same_question_has_the_same_answer(self):
        first = [answer(question) for question in questions()]
        again = [answer(question) for question in reversed(questions())]
        self.assertTrue(same_kind(first, again[::-1]))

    def test_refusals_in_between_change_no_answer(self):
        first = [answer(question) for question in questions()]
        self.test_nothing_that_is_refused_is_changed()
        self.assertTrue(same_kind(first, [answer(question) for question in questions()]))

    def test_lists_that_are_told_are_new(self):
        lists = 0
        for question in questions():
            told = answer(question)
            if isinstance(told, list):
                lists += 1
                before = copy.deepcopy(told)
                told.append("spoilt")
                told.reverse()
                self.assertTrue(same_kind(answer(question), before))
        self.assertGreater(lists, 10)

    def test_a_list_handed_in_may_change_behind_the_call(self):
        things = [(0, 1)]
        web = webs.web_of(3, things)
        things.append((1, 2))
        things[0] = None
        self.assertEqual(web, (3, ((0, 1),)))

    def test_what_was_told_may_be_handed_in_again(self):
        for web in webs_of(4):
            for root in roots.all_roots(web):
                self.assertIs(webs.web_good(root), True)
                self.assertEqual(webs.web_of(4, list(root[1])), root)
                self.assertIs(looks.show_good(web, root, looks.first_show(web, root)), True)
            for piece in looks.pieces_of(web):
                self.assertIs(webs.web_good(looks.within(web, piece)), True)
            self.assertEqual(webs.renamed(web, webs.star_of(FULL4, 0)), web)


if __name__ == "__main__":
    unittest.main()
