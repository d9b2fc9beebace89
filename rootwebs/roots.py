"""All roots of a web of at most twelve ties.

A choice of ties is held as a number: its bit at t tells whether tie t of the web is in.
"""

from rootwebs.errors import NoLine, TooGreat

MOST_TIES = 12
MOST_ROOTS = 300


def check_ties(web):
    """Refuses a web of too many ties, as it is due ahead of all else [3.1]."""
    many = len(web[1])
    if many > MOST_TIES:
        raise TooGreat(many, MOST_TIES)


def check_roots(roots):
    """Refuses a list of more roots than are told [3.1]."""
    if len(roots) > MOST_ROOTS:
        raise TooGreat(len(roots), MOST_ROOTS)


def check_begun(web, thing):
    """Refuses what is no beginning for the web [3.4]."""
    if not is_begun(web, thing):
        raise NoLine()


def is_begun(web, thing):
    """Whether it is a tuple of truths, as many as the web has ties at most."""
    if not isinstance(thing, tuple) or len(thing) > len(web[1]):
        return False
    return all([isinstance(truth, bool) for truth in thing])


def loose_ends(one, other):
    """The places at which just one of two ties ends: two where they make a step, else four."""
    return tuple(sorted(set(one) ^ set(other)))


def clashes_and_makings(ties):
    """Two lists, with for each tie: the choice of the ties ahead of it that must be out where it is
    in, else two places would be two ties apart that the web does not tie; and the list of the least
    choices by which its own two places are one or two ties apart.
    """
    clashes = [0] * len(ties)
    makings = [[1 << at] for at in range(len(ties))]
    for at, tie in enumerate(ties):
        for ahead in range(at):
            ends = loose_ends(ties[ahead], tie)
            if ends in ties:
                makings[ties.index(ends)].append((1 << ahead) | (1 << at))
            elif len(ends) == 2:
                clashes[at] |= 1 << ahead
    return clashes, makings


def settled_at(makings):
    """A list with, for each tie, the makings that are wholly decided with it and not ahead.

    A tie that is not made by then never is, so a choice is dropped as early as can be.
    """
    settled = [[] for ways in makings]
    for ways in makings:
        settled[max(ways).bit_length() - 1].append(ways)
    return settled


def is_made(choice, ways):
    """Whether the choice has all ties of some of the ways."""
    return any([(choice & way) == way for way in ways])


def root_choices(web, begun):
    """The choices of ties that are roots of the web and begin so."""
    ties = web[1]
    clashes, makings = clashes_and_makings(ties)
    settled = settled_at(makings)
    choices = [0]
    for at in range(len(ties)):
        grown = []
        if at >= len(begun) or not begun[at]:
            grown += choices
        if at >= len(begun) or begun[at]:
            grown += [choice | (1 << at) for choice in choices if (choice & clashes[at]) == 0]
        choices = [choice for choice in grown if all([is_made(choice, ways) for ways in settled[at]])]
    return choices


def chosen_ties(ties, choice):
    """The rising tuple of the ties that are in."""
    return tuple([tie for at, tie in enumerate(ties) if (choice >> at) & 1])


def roots_of(web):
    """The list of all roots, rising, however many."""
    many, ties = web
    return sorted([(many, chosen_ties(ties, choice)) for choice in root_choices(web, ())])


def roots_many(web):
    """How many roots a web has [3.1]."""
    check_ties(web)
    return len(root_choices(web, ()))


def first_root(web):
    """The first root, as tuples compare, None where there is none [3.1]."""
    check_ties(web)
    return min(roots_of(web), default=None)


def all_roots(web):
    """The list of all roots, rising, or TooGreat [3.1]."""
    check_ties(web)
    roots = roots_of(web)
    check_roots(roots)
    return roots


def ties_tally(web):
    """A list: at t how many roots have just t ties [3.2]."""
    check_ties(web)
    tally = [0] * (len(web[1]) + 1)
    for root in roots_of(web):
        tally[len(root[1])] += 1
    return tally


def fewest_root(web):
    """The first of the roots with fewest ties, None where there is none [3.2]."""
    check_ties(web)
    return min(roots_of(web), key=lambda root: (len(root[1]), root), default=None)


def must_have(web):
    """The ties that each root has [3.3]."""
    check_ties(web)
    roots = roots_of(web)
    return tuple([tie for tie in web[1] if all([tie in root[1] for root in roots])])


def may_have(web):
    """The ties that some root has [3.3]."""
    check_ties(web)
    roots = roots_of(web)
    return tuple([tie for tie in web[1] if any([tie in root[1] for root in roots])])


def roots_begun(web, begun):
    """How many roots begin so [3.4]."""
    check_ties(web)
    check_begun(web, begun)
    return len(root_choices(web, begun))


def next_truths(web, begun):
    """The list of the truths that the next tie has in some root that begins so [3.4]."""
    check_ties(web)
    check_begun(web, begun)
    if len(begun) == len(web[1]):
        return []
    return [truth for truth in (False, True) if root_choices(web, begun + (truth,))]
