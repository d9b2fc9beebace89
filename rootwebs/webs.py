"""Webs, and the webs that come of them by steps and by renaming."""

from rootwebs.errors import NoNumber, NoPlace, NoWeb
from rootwebs.kinds import is_place, is_places, is_rising, is_whole_from

MOST_PLACES = 6
MOST_STEPS = 6


def web_good(thing):
    """Whether it is a web [1.1]."""
    if not isinstance(thing, tuple) or len(thing) != 2:
        return False
    many, ties = thing
    return is_many(many) and is_ties(many, ties)


def is_many(thing):
    """Whether a web can have so many places."""
    return is_whole_from(thing, 1, MOST_PLACES)


def is_ties(many, thing):
    """Whether it is the rising tuple of ties of a web of so many places."""
    # Only ties can be compared with one another, so they are looked at ahead of their order.
    return isinstance(thing, tuple) and all([is_tie(many, tie) for tie in thing]) and is_rising(thing)


def is_tie(many, thing):
    """Whether it is a tuple of two places, the lesser one ahead."""
    return is_pair(many, thing) and thing[0] < thing[1]


def is_pair(many, thing):
    """Whether it is a tuple of two unlike places, in any order."""
    return is_places(many, thing) and len(thing) == 2 and thing[0] != thing[1]


def web_of(many, things):
    """The web of so many places and of these pairs, or NoWeb [1.2]."""
    if not is_many(many):
        raise NoWeb(-1)
    for at, thing in enumerate(things):
        if not is_pair(many, thing):
            raise NoWeb(at)
    return (many, tuple(sorted({(min(pair), max(pair)) for pair in things})))


def check_place(web, thing):
    """Refuses what is no place of the web."""
    if not is_place(web[0], thing):
        raise NoPlace()


def is_tied(web, one, other):
    """Whether two places are tied, whichever is the lesser one."""
    return (min(one, other), max(one, other)) in web[1]


def far_of(web, one, other):
    """How many ties apart two places are, None where there is no way [1.3]."""
    check_place(web, one)
    check_place(web, other)
    return fars_from(web, one)[other]


def fars_from(web, start):
    """A list with, for each place, how far it is from the start; None where there is no way."""
    many, ties = web
    fars = [None] * many
    fars[start] = 0
    far = 0
    front = [start]
    while front:
        far += 1
        front = [place for place in next_places(ties, front) if fars[place] is None]
        for place in front:
            fars[place] = far
    return fars


def next_places(ties, front):
    """The places tied to some place of the front, perhaps one twice."""
    return [b for a, b in ties if a in front] + [a for a, b in ties if b in front]


def star_of(web, place):
    """The rising tuple of a place and the places tied to it [1.3]."""
    check_place(web, place)
    return tuple(sorted(set([place] + next_places(web[1], [place]))))


def steps_web(web, k):
    """The web in which any two places are tied that are from one to k ties apart [1.3]."""
    if not is_whole_from(k, 1, MOST_STEPS):
        raise NoNumber()
    many = web[0]
    ties = []
    for one in range(many):
        fars = fars_from(web, one)
        ties += [(one, other) for other in range(one + 1, many) if fars[other] is not None and fars[other] <= k]
    return (many, tuple(ties))


def two_step(web):
    """The web in which any two places are tied that are one or two ties apart [1.3]."""
    return steps_web(web, 2)


def still_from(web):
    """The least number of steps from which on more steps change nothing [1.4]."""
    # Six places are at most five ties apart, so the loop ends within MOST_STEPS.
    k = 1
    while steps_web(web, k) != steps_web(web, k + 1):
        k += 1
    return k


def is_still(web):
    """Whether a web is its own two-step web [1.4]."""
    return two_step(web) == web


def renamed(web, names):
    """The web in which each place has the number that stands at its place in names [1.5]."""
    many, ties = web
    if not is_renaming(many, names):
        raise NoPlace()
    return web_of(many, [(names[a], names[b]) for a, b in ties])


def is_renaming(many, thing):
    """Whether it is a tuple with each of so many places once."""
    return is_places(many, thing) and len(thing) == many and len(set(thing)) == many
