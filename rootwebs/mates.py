"""Webs that have one two-step web, and tables of all webs of a few places."""

from rootwebs.errors import NoNumber
from rootwebs.kinds import is_whole_from
from rootwebs.roots import all_roots, fewest_root, roots_many, ties_tally
from rootwebs.webs import two_step

MOST_LISTED = 4


def are_mates(one, other):
    """Whether two webs have one two-step web [9.1]."""
    return two_step(one) == two_step(other)


def mates_of(web):
    """The list, rising, of all mates of a web, or TooGreat [9.1]."""
    return all_roots(two_step(web))


def mates_many(web):
    """How many mates a web has, itself among them [9.1]."""
    return roots_many(two_step(web))


def fewest_mate(web):
    """The first of the mates with fewest ties [9.4]."""
    return fewest_root(two_step(web))


def mate_span(web):
    """The least and the greatest number of ties that mates of a web have [9.4]."""
    tally = ties_tally(two_step(web))
    sizes = [size for size, mates in enumerate(tally) if mates > 0]
    return (min(sizes), max(sizes))


def pairs_of(many):
    """The list, rising, of all pairs of so many places, the lesser one ahead."""
    return [(a, b) for a in range(many) for b in range(a + 1, many)]


def all_webs(many):
    """The list, rising, of all webs of so many places [9.2]."""
    if not is_whole_from(many, 1, MOST_LISTED):
        raise NoNumber()
    webs = [(many, ())]
    for tie in pairs_of(many):
        webs = webs + [(many, ties + (tie,)) for places, ties in webs]
    return sorted(webs)


def kinds_table(many):
    """The list, rising, of all two-step webs of webs of so many places, each with how many have it [9.3]."""
    mates = {}
    for web in all_webs(many):
        kind = two_step(web)
        mates[kind] = mates.get(kind, 0) + 1
    return sorted(mates.items())


def rooted_many(many):
    """How many webs of so many places have a root [9.2]."""
    return len(kinds_table(many))


def rooted_table(many):
    """A list: at t how many webs of just t ties have a root [9.2]."""
    kinds = kinds_table(many)
    table = [0] * (len(pairs_of(many)) + 1)
    for kind, mates in kinds:
        table[len(kind[1])] += 1
    return table
