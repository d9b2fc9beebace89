"""Roots by more steps than two, and chains of roots."""

from rootwebs.errors import NoNumber
from rootwebs.kinds import is_whole_from
from rootwebs.looks import root_good
from rootwebs.roots import check_roots, check_ties, roots_by, roots_of
from rootwebs.webs import steps_web, still_from, web_good

MOST_BY = 5
MOST_CHAIN = 3


def check_by(k):
    """Refuses what is no number of steps by which there are roots."""
    if not is_whole_from(k, 1, MOST_BY):
        raise NoNumber()


def root_by_good(web, k, thing):
    """Whether it is a root by k of the web [8.1]."""
    check_by(k)
    return web_good(thing) and steps_web(thing, k) == web


def checked_by(web, k):
    """The list, rising, of all roots by k, however many, of a web and a number that may be."""
    check_ties(web)
    check_by(k)
    return roots_by(web, k)


def roots_by_many(web, k):
    """How many roots by k a web has [8.1]."""
    return len(checked_by(web, k))


def first_by(web, k):
    """The first root by k, as tuples compare, None where there is none [8.1]."""
    return min(checked_by(web, k), default=None)


def all_by(web, k):
    """The list of all roots by k, rising, or TooGreat [8.1]."""
    roots = checked_by(web, k)
    check_roots(roots)
    return roots


def steps_of(web):
    """The rising tuple of the numbers k by which a web has a root [8.2]."""
    check_ties(web)
    return tuple([k for k in range(1, MOST_BY + 1) if roots_by(web, k)])


def steps_list(web):
    """The list of the steps webs of a web, up to the one from which on nothing changes [8.2]."""
    return [steps_web(web, k) for k in range(1, still_from(web) + 1)]


def chain_good(web, thing):
    """Whether it is a chain of the web [8.3]."""
    if not isinstance(thing, tuple) or not 1 <= len(thing) <= MOST_CHAIN:
        return False
    # What is no web fails where it stands as a root, so it does no harm where it stands ahead of one.
    return all([root_good(ahead, root) for ahead, root in zip((web,) + thing, thing)])


def first_chain(web, many):
    """The first chain of so many webs, as tuples compare, None where there is none [8.3]."""
    check_ties(web)
    if not is_whole_from(many, 1, MOST_CHAIN):
        raise NoNumber()
    return find_chain(web, many)


def find_chain(web, many):
    """The first chain of so many webs, perhaps of none, None where there is none."""
    if many == 0:
        return ()
    for root in roots_of(web):
        further = find_chain(root, many - 1)
        if further is not None:
            return (root,) + further
    return None
