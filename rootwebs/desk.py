"""A desk that keeps a web, is told rows, and answers them."""

from rootwebs.errors import NoLine, NoRoot
from rootwebs.looks import pieces_of
from rootwebs.roots import fewest_root, first_root, roots_many
from rootwebs.stars import great_knots
from rootwebs.steps import steps_of
from rootwebs.texts import numbers_behind, web_shown
from rootwebs.trees import tree_roots
from rootwebs.webs import check_place, far_of, is_still, is_tied, star_of, steps_web, web_of


def fresh_web(web, numbers):
    """A web of so many places without ties, or NoWeb."""
    return web_of(numbers[0], [])


def check_places(web, numbers):
    """Refuses numbers that are not all places of the web."""
    for number in numbers:
        check_place(web, number)


def tie_web(web, numbers):
    """The web with both places tied."""
    check_places(web, numbers)
    one, other = numbers
    if one == other or is_tied(web, one, other):
        raise NoLine()
    return web_of(web[0], list(web[1]) + [numbers])


def cut_web(web, numbers):
    """The web with both places tied no more."""
    check_places(web, numbers)
    one, other = numbers
    if not is_tied(web, one, other):
        raise NoLine()
    return web_of(web[0], [tie for tie in web[1] if tie != (min(numbers), max(numbers))])


def step_web(web, numbers):
    """The steps web, or NoNumber."""
    return steps_web(web, numbers[0])


def root_web(web, numbers):
    """The first root, or TooGreat, or NoRoot."""
    root = first_root(web)
    if root is None:
        raise NoRoot()
    return root


def shown_things(things):
    """The things with one blank between each two, `none` where there are none."""
    return " ".join([str(thing) for thing in things]) if things else "none"


def shown_tuples(tuples):
    """Tuples of places, `-` between those of one, with one blank between each two."""
    return shown_things(["-".join([str(place) for place in places]) for places in tuples])


def shown_root(root):
    """The ties of a root, `empty` where it has none, `none` where there is no root."""
    if root is None:
        return "none"
    return shown_tuples(root[1]) if root[1] else "empty"


def ask_ties(web, numbers):
    """The ties."""
    return shown_tuples(web[1])


def ask_far(web, numbers):
    """How far two places are apart, or NoPlace."""
    far = far_of(web, numbers[0], numbers[1])
    return "none" if far is None else str(far)


def ask_star(web, numbers):
    """The places of a star, or NoPlace."""
    return shown_things(star_of(web, numbers[0]))


def ask_still(web, numbers):
    """Whether the web is still."""
    return "yes" if is_still(web) else "no"


def ask_roots(web, numbers):
    """How many roots there are, or TooGreat."""
    return str(roots_many(web))


def ask_first(web, numbers):
    """The ties of the first root, or TooGreat."""
    return shown_root(first_root(web))


def ask_fewest(web, numbers):
    """The ties of the first of the roots with fewest ties, or TooGreat."""
    return shown_root(fewest_root(web))


def ask_trees(web, numbers):
    """How many tree roots there are."""
    return str(len(tree_roots(web)))


def ask_pieces(web, numbers):
    """The pieces."""
    return shown_tuples(pieces_of(web))


def ask_knots(web, numbers):
    """The great knots."""
    return shown_tuples(great_knots(web))


def ask_kinds(web, numbers):
    """The numbers of steps by which the web has a root, or TooGreat."""
    return shown_things(steps_of(web))


def ask_shown(web, numbers):
    """The text of the web in one row."""
    return web_shown(web).replace("\n", " ; ")


# How many numbers are due behind each word.
NUMBERS_DUE = {
    "fresh": 1, "tie": 2, "cut": 2, "step": 1, "root": 0, "back": 0, "ties": 0, "far": 2, "star": 1, "still": 0,
    "roots": 0, "first": 0, "fewest": 0, "trees": 0, "pieces": 0, "knots": 0, "kinds": 0, "shown": 0,
}
# Each of these makes the web that stands in the web's place; `back` alone asks for more than the web.
DEEDS = {"fresh": fresh_web, "tie": tie_web, "cut": cut_web, "step": step_web, "root": root_web}
QUESTIONS = {
    "ties": ask_ties, "far": ask_far, "star": ask_star, "still": ask_still, "roots": ask_roots, "first": ask_first,
    "fewest": ask_fewest, "trees": ask_trees, "pieces": ask_pieces, "knots": ask_knots, "kinds": ask_kinds,
    "shown": ask_shown,
}


def read_row(row):
    """The word and the numbers of a row, or NoLine [10.4]."""
    if not isinstance(row, str):
        raise NoLine()
    word = row.split(" ")[0]
    if word not in NUMBERS_DUE:
        raise NoLine()
    numbers = numbers_behind(word, NUMBERS_DUE[word], row)
    if numbers is None:
        raise NoLine()
    return (word, numbers)


class Desk:
    """Keeps a web, and answers each row that it is told with a text, or refuses it [10.2]."""

    def __init__(self):
        self.web = (1, ())
        # The web ahead of each deed that stands: what `back` puts in its place.
        self.past = []

    def say(self, row):
        """The answer to a row: `ok` to a deed, else what was asked [10.2, 10.3, 10.4]."""
        word, numbers = read_row(row)
        if word in QUESTIONS:
            question = QUESTIONS[word]
            return question(self.web, numbers)
        if word == "back":
            self.undo()
        else:
            deed = DEEDS[word]
            self.put(deed(self.web, numbers))
        return "ok"

    def put(self, web):
        """Puts a web in the web's place."""
        self.past.append(self.web)
        self.web = web

    def undo(self):
        """Undoes the last deed that stands."""
        if not self.past:
            raise NoLine()
        self.web = self.past.pop()
