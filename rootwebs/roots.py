"""All roots of a web of at most twelve ties, and the search for roots by any number of steps.

A choice of ties is held as a number: its bit at t tells whether tie t of the web is in.
"""

from rootwebs.errors import NoLine, TooGreat

MOST_TIES = 12
MOST_ROOTS = 300
ROOT_STEPS = 2


def check_ties(web):
    """Refuses a web of too many ties, as it is due ahead of all else [3.1]."""
    many = len(web[1])
    if many > MOST_TIES:
        raise TooGreat(many, MOST_TIES)


def check_roots(roots):
    """Refuses a list of more roots than are told [3.1]."""
    if len(roots) > MOST_ROOTS:
        raise TooGreat(len(roots), MOST_ROOTS)


def check_begun(web, thing):
    """Refuses what is no beginning for the web [3.4]."""
    if not is_begun(web, thing):
        raise NoLine()


def is_begun(web, thing):
    """Whether it is a tuple of truths, as many as the web has ties at most."""
    if not isinstance(thing, tuple) or len(thing) > len(web[1]):
        return False
    return all([isinstance(truth, bool) for truth in thing])


def steps_at(web):
    """A list with, for each place, the places tied to it, each with the choice of that tie alone."""
    many, ties = web
    steps = [[] for place in range(many)]
    for at, (a, b) in enumerate(ties):
        steps[a].append((b, 1 << at))
        steps[b].append((a, 1 << at))
    return steps


def ways_between(web, k):
    """A table with, for any two places that are from one to k ties apart, the list of the choices
    that are a way of at most k ties from the lesser one to the greater one.
    """
    found = {}
    steps = steps_at(web)
    ways = [((place,), 0) for place in range(web[0])]
    for step in range(k):
        ways = [(way + (b,), choice | tie) for way, choice in ways for b, tie in steps[way[-1]] if b not in way]
        for way, choice in ways:
            if way[0] < way[-1]:
                found.setdefault((way[0], way[-1]), []).append(choice)
    return found


def clashes_at(ties, ways):
    """A list with, for each tie, those ways between two places not tied in the web of which it is
    the last tie: what has all ties of such a way ties more than the web does.
    """
    clashes = [[] for tie in ties]
    for pair in ways:
        if pair not in ties:
            for way in ways[pair]:
                clashes[way.bit_length() - 1].append(way)
    return clashes


def settled_at(makings):
    """A list with, for each tie, the makings that are wholly decided with it and not ahead.

    A tie that is not made by then never is, so a choice is dropped as early as can be.
    """
    settled = [[] for ways in makings]
    for ways in makings:
        settled[max(ways).bit_length() - 1].append(ways)
    return settled


def is_made(choice, ways):
    """Whether the choice has all ties of some of the ways."""
    return any([(choice & way) == way for way in ways])


def choices_by(web, k, begun):
    """The choices of ties that are webs whose steps web by k the web is, and that begin so."""
    ties = web[1]
    ways = ways_between(web, k)
    clashes = clashes_at(ties, ways)
    settled = settled_at([ways[tie] for tie in ties])
    choices = [0]
    for at in range(len(ties)):
        grown = []
        if at >= len(begun) or not begun[at]:
            grown += choices
        if at >= len(begun) or begun[at]:
            longer = [choice | (1 << at) for choice in choices]
            grown += [choice for choice in longer if not is_made(choice, clashes[at])]
        choices = [choice for choice in grown if all([is_made(choice, making) for making in settled[at]])]
    return choices


def root_choices(web, begun):
    """The choices of ties that are roots of the web and begin so."""
    return choices_by(web, ROOT_STEPS, begun)


def chosen_ties(ties, choice):
    """The rising tuple of the ties that are in."""
    return tuple([tie for at, tie in enumerate(ties) if (choice >> at) & 1])


def roots_by(web, k):
    """The list, rising, of all webs whose steps web by k the web is, however many."""
    many, ties = web
    return sorted([(many, chosen_ties(ties, choice)) for choice in choices_by(web, k, ())])


def roots_of(web):
    """The list of all roots, rising, however many."""
    return roots_by(web, ROOT_STEPS)


def roots_many(web):
    """How many roots a web has [3.1]."""
    check_ties(web)
    return len(root_choices(web, ()))


def first_root(web):
    """The first root, as tuples compare, None where there is none [3.1]."""
    check_ties(web)
    return min(roots_of(web), default=None)


def all_roots(web):
    """The list of all roots, rising, or TooGreat [3.1]."""
    check_ties(web)
    roots = roots_of(web)
    check_roots(roots)
    return roots


def ties_tally(web):
    """A list: at t how many roots have just t ties [3.2]."""
    check_ties(web)
    tally = [0] * (len(web[1]) + 1)
    for root in roots_of(web):
        tally[len(root[1])] += 1
    return tally


def fewest_root(web):
    """The first of the roots with fewest ties, None where there is none [3.2]."""
    check_ties(web)
    return min(roots_of(web), key=lambda root: (len(root[1]), root), default=None)


def must_have(web):
    """The ties that each root has [3.3]."""
    check_ties(web)
    roots = roots_of(web)
    return tuple([tie for tie in web[1] if all([tie in root[1] for root in roots])])


def may_have(web):
    """The ties that some root has [3.3]."""
    check_ties(web)
    roots = roots_of(web)
    return tuple([tie for tie in web[1] if any([tie in root[1] for root in roots])])


def roots_begun(web, begun):
    """How many roots begin so [3.4]."""
    check_ties(web)
    check_begun(web, begun)
    return len(root_choices(web, begun))


def next_truths(web, begun):
    """The list of the truths that the next tie has in some root that begins so [3.4]."""
    check_ties(web)
    check_begun(web, begun)
    if len(begun) == len(web[1]):
        return []
    return [truth for truth in (False, True) if root_choices(web, begun + (truth,))]
