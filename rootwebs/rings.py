"""Rings of a web, roots without short ones, and ties that can be spared."""

from rootwebs.errors import NoNumber
from rootwebs.kinds import is_places, is_whole_from
from rootwebs.roots import check_roots, check_ties, roots_of
from rootwebs.webs import is_tied, star_of, two_step

LEAST_RING = 3
LEAST_FREE = 2
MOST_FREE = 6


def ring_good(web, thing):
    """Whether it is a ring of the web [7.1]."""
    if not is_places(web[0], thing) or len(thing) < LEAST_RING or len(set(thing)) != len(thing):
        return False
    # The place ahead of the first one is the last one, as Python counts.
    return all([is_tied(web, thing[at - 1], place) for at, place in enumerate(thing)])


def rings_of(web, size):
    """The list, rising, of the rings of so many places, three or more."""
    many = web[0]
    stars = [star_of(web, place) for place in range(many)]
    ways = [(place,) for place in range(many)]
    for step in range(size - 1):
        ways = [way + (place,) for way in ways for place in stars[way[-1]] if place not in way]
    return [way for way in ways if way[0] in stars[way[-1]]]


def shortest_rings(web):
    """The list, rising, of the rings with fewest places, [] where there are none."""
    for size in range(LEAST_RING, web[0] + 1):
        rings = rings_of(web, size)
        if rings:
            return rings
    return []


def least_ring(web):
    """How many places the shortest ring has, None of a web without rings [7.1]."""
    ring = first_ring(web)
    return None if ring is None else len(ring)


def first_ring(web):
    """The first of the shortest rings, None of a web without rings [7.1]."""
    return min(shortest_rings(web), default=None)


def is_free(web, k):
    """Whether all rings of the web have more than k places."""
    least = least_ring(web)
    return least is None or least > k


def free_of(web, k):
    """The list, rising, of the roots all rings of which have more than k places, however many."""
    check_ties(web)
    if not is_whole_from(k, LEAST_FREE, MOST_FREE):
        raise NoNumber()
    return [root for root in roots_of(web) if is_free(root, k)]


def free_roots(web, k):
    """The list, rising, of the roots all rings of which have more than k places, or TooGreat [7.2]."""
    roots = free_of(web, k)
    check_roots(roots)
    return roots


def free_many(web, k):
    """How many roots have only rings of more than k places [7.2]."""
    return len(free_of(web, k))


def first_free(web, k):
    """The first root that has only rings of more than k places, None where there is none [7.2]."""
    return min(free_of(web, k), default=None)


def without(web, tie):
    """What is left of the web when the tie is taken out."""
    many, ties = web
    return (many, tuple([other for other in ties if other != tie]))


def is_spare(web, tie):
    """Whether the web has one two-step web with the tie and without it."""
    return two_step(without(web, tie)) == two_step(web)


def spare_ties(web):
    """The rising tuple of the spare ties of a web [7.3]."""
    return tuple([tie for tie in web[1] if is_spare(web, tie)])


def thinned(web):
    """What is left when each tie that is spare in its turn is taken out [7.3]."""
    left = web
    for tie in web[1]:
        if is_spare(left, tie):
            left = without(left, tie)
    return left
