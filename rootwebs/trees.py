"""Trees and their words, tree roots of a web, and bars that there is none."""

from rootwebs.errors import NoNumber, NoTree
from rootwebs.kinds import is_headed, is_places, is_whole_from
from rootwebs.looks import pieces_of
from rootwebs.rings import ring_good, rings_of
from rootwebs.webs import MOST_PLACES, far_of, fars_from, is_tied, two_step, web_good, web_of

LEAST_WORDED = 3
LEAST_BARE = 4


def tree_good(thing):
    """Whether it is a tree [5.1]."""
    return web_good(thing) and len(thing[1]) == thing[0] - 1 and None not in fars_from(thing, 0)


def check_tree(thing):
    """Refuses what is no tree."""
    if not tree_good(thing):
        raise NoTree()


def word_of(web):
    """The word of a tree of three places or more, or NoTree [5.1]."""
    check_tree(web)
    if web[0] < LEAST_WORDED:
        raise NoTree()
    ties = list(web[1])
    word = []
    while len(ties) > 1:
        ends = [place for tie in ties for place in tie]
        least = min([place for place in ends if ends.count(place) == 1])
        last = [tie for tie in ties if least in tie][0]
        word.append(sum(last) - least)
        ties.remove(last)
    return tuple(word)


def tree_by(many, word):
    """The tree of so many places that has the word [5.1]."""
    if not is_whole_from(many, LEAST_WORDED, MOST_PLACES):
        raise NoNumber()
    if not is_places(many, word) or len(word) != many - 2:
        raise NoTree()
    left = list(range(many))
    ties = []
    for at, place in enumerate(word):
        # A place is taken off once it is tied to just one: once the rest of the word names it no more.
        least = min([other for other in left if other not in word[at:]])
        ties.append((least, place))
        left.remove(least)
    return web_of(many, ties + [tuple(left)])


def trees_within(web):
    """The list of all trees of as many places, each tie of which is one of the web's."""
    many, ties = web
    grown = [(many, ())]
    for a, b in ties:
        grown = grown + [(many, ahead[1] + ((a, b),)) for ahead in grown if far_of(ahead, a, b) is None]
    # None of these has a ring, so those with ties enough are trees.
    return [one for one in grown if len(one[1]) == many - 1]


def tree_roots(web):
    """The list, rising, of all roots that are trees [5.2]."""
    return sorted([tree for tree in trees_within(web) if two_step(tree) == web])


def first_tree(web):
    """The first root that is a tree, None where there is none [5.2]."""
    return min(tree_roots(web), default=None)


def bar_good(web, thing):
    """Whether it is a tree bar of the web [5.3]."""
    if is_headed(thing, "apart", 3):
        return is_apart(web, thing[1:])
    return is_headed(thing, "ring", 2) and is_bar_ring(web, thing[1])


def is_apart(web, thing):
    """Whether it is a tuple of two places without a way between them."""
    return is_places(web[0], thing) and far_of(web, thing[0], thing[1]) is None


def is_bar_ring(web, thing):
    """Whether it is a ring of four places or more, no two of which are tied but along it."""
    return ring_good(web, thing) and len(thing) >= LEAST_BARE and is_bare(web, thing)


def is_bare(web, ring):
    """Whether no two places of the ring are tied but along it: it has as many ties as places."""
    return len([tie for tie in web[1] if tie[0] in ring and tie[1] in ring]) == len(ring)


def bar_of(web):
    """Some tree bar, None where there is none [5.3]."""
    pieces = pieces_of(web)
    if len(pieces) > 1:
        return ("apart", pieces[0][0], pieces[1][0])
    for size in range(LEAST_BARE, web[0] + 1):
        for ring in rings_of(web, size):
            if is_bare(web, ring):
                return ("ring", ring)
    return None


def alike_trees(one, other):
    """The first renaming of the one tree to the other, None where there is none [5.4]."""
    check_tree(one)
    check_tree(other)
    many = one[0]
    if many != other[0]:
        return None
    starts = [()]
    for place in range(many):
        longer = [start + (name,) for start in starts for name in range(many) if name not in start]
        starts = [start for start in longer if keeps_last(one, other, start)]
    return min(starts, default=None)


def keeps_last(one, other, names):
    """Whether the place named last is tied to those ahead of it just as their names are."""
    last = len(names) - 1
    return all([is_tied(one, at, last) == is_tied(other, names[at], names[last]) for at in range(last)])
