"""Roots looked at: how a web differs from what another one comes to, and by which steps."""

from rootwebs.errors import NoPlace, NoRoot, TooGreat
from rootwebs.kinds import is_places, is_rising_places
from rootwebs.webs import MOST_PLACES, check_place, fars_from, star_of, two_step, web_good, web_of


def root_good(web, thing):
    """Whether it is a root of the web [2.1]."""
    return web_good(thing) and two_step(thing) == web


def check_other(web, thing):
    """Refuses what is no web of as many places."""
    if not web_good(thing) or thing[0] != web[0]:
        raise NoRoot()


def differences(web, other):
    """The ties that the two-step web of the other one lacks, and those it has more [2.2]."""
    check_other(web, other)
    ties = web[1]
    reached = two_step(other)[1]
    lacks = tuple([tie for tie in ties if tie not in reached])
    more = tuple([tie for tie in reached if tie not in ties])
    return (lacks, more)


def first_wrong(web, other):
    """The least pair of the differences with its word ahead, None where there is none [2.2]."""
    lacks, more = differences(web, other)
    if not lacks and not more:
        return None
    a, b = min(lacks + more)
    word = "lacks" if (a, b) in lacks else "more"
    return (word, a, b)


def steps_from(web, one, other):
    """The list of all steps from the one place to the other [2.3]."""
    check_place(web, one)
    check_place(web, other)
    if one == other:
        return []
    near = star_of(web, one)
    middles = [place for place in star_of(web, other) if place in near and place not in (one, other)]
    steps = [(one, middle, other) for middle in middles]
    if other in near:
        steps.append((one, other))
    return sorted(steps)


def is_step(web, tie, thing):
    """Whether it is a step in the web from the one end of the tie to the other."""
    # Truths equal numbers in Python, so the kinds are looked at ahead of the list.
    if not is_places(web[0], thing):
        return False
    return thing in steps_from(web, tie[0], tie[1])


def show_good(web, other, thing):
    """Whether it has, for each tie of the web in order, a step in the other web [2.3]."""
    check_other(web, other)
    ties = web[1]
    if not isinstance(thing, tuple) or len(thing) != len(ties):
        return False
    return all([is_step(other, tie, step) for tie, step in zip(ties, thing)])


def first_show(web, other):
    """The first show of the other web for the web, None where there is none [2.3]."""
    check_other(web, other)
    choices = [steps_from(other, a, b) for a, b in web[1]]
    if not all(choices):
        return None
    return tuple([steps[0] for steps in choices])


def pieces_of(web):
    """The list of the pieces of a web, by their least places [2.4]."""
    pieces = []
    for start in range(web[0]):
        fars = fars_from(web, start)
        piece = tuple([place for place, far in enumerate(fars) if far is not None])
        if piece[0] == start:
            pieces.append(piece)
    return pieces


def within(web, places):
    """The web of these places alone, numbered from 0 in their order [2.4]."""
    many, ties = web
    if not is_rising_places(many, places):
        raise NoPlace()
    kept = [(a, b) for a, b in ties if a in places and b in places]
    return web_of(len(places), [(places.index(a), places.index(b)) for a, b in kept])


def beside(one, other):
    """The web in which the other one's places follow behind the one's [2.4]."""
    ahead, ties = one
    behind, others = other
    many = ahead + behind
    if many > MOST_PLACES:
        raise TooGreat(many, MOST_PLACES)
    return web_of(many, list(ties) + [(ahead + a, ahead + b) for a, b in others])
