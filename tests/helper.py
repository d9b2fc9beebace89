"""What several test files share: webs, wrong things, and slow answers found another way."""

import itertools
from functools import lru_cache

from rootwebs.errors import TooGreat


def pairs_of(many):
    return list(itertools.combinations(range(many), 2))


def webs_of(many):
    """All webs of so many places."""
    pairs = pairs_of(many)
    return [
        (many, ties)
        for size in range(len(pairs) + 1)
        for ties in itertools.combinations(pairs, size)
    ]


def small_webs():
    """All webs of one to four places."""
    return [web for many in range(1, 5) for web in webs_of(many)]


def many_webs():
    """All webs of one to five places, and every 31st of six."""
    return small_webs() + webs_of(5) + webs_of(6)[::31]


def webs_to_try():
    """All webs of one to five places, all of six with a root, and some without, of at most twelve ties."""
    webs = many_webs() + sorted(roots_table(6))
    return [web for web in webs if len(web[1]) <= 12]


def full_web(many):
    return (many, tuple(pairs_of(many)))


def path_web(many):
    return (many, tuple((a, a + 1) for a in range(many - 1)))


def ring_web(many):
    return (many, tuple(sorted([(a, a + 1) for a in range(many - 1)] + [(0, many - 1)])))


def slow_fars(web):
    """A table of how far places are apart, by way of each place in turn."""
    many, ties = web
    fars = [[None] * many for _ in range(many)]
    for place in range(many):
        fars[place][place] = 0
    for a, b in ties:
        fars[a][b] = fars[b][a] = 1
    for by in range(many):
        for a in range(many):
            for b in range(many):
                if fars[a][by] is not None and fars[by][b] is not None:
                    length = fars[a][by] + fars[by][b]
                    if fars[a][b] is None or length < fars[a][b]:
                        fars[a][b] = length
    return fars


def slow_steps(web, k):
    fars = slow_fars(web)
    ties = [(a, b) for a, b in pairs_of(web[0]) if fars[a][b] is not None and fars[a][b] <= k]
    return (web[0], tuple(ties))


def slow_two_step(web):
    """The two-step web straight from its words: one tie apart, or two by way of some place."""
    many, ties = web
    tied = set(ties) | {(b, a) for a, b in ties}
    return (many, tuple(
        (a, b) for a, b in pairs_of(many)
        if (a, b) in tied or any((a, c) in tied and (c, b) in tied for c in range(many))
    ))


@lru_cache(maxsize=None)
def roots_table(many):
    """For each web that has roots the sorted tuple of them, found by trying all webs."""
    table = {}
    for web in webs_of(many):
        table.setdefault(slow_two_step(web), []).append(web)
    return {web: tuple(sorted(roots)) for web, roots in table.items()}


def slow_roots(web):
    return roots_table(web[0]).get(web, ())


@lru_cache(maxsize=None)
def by_table(many):
    """For each k from 1 to 5 a table with, for each web that has roots by k, the sorted tuple of them."""
    tables = {k: {} for k in range(1, 6)}
    for web in webs_of(many):
        fars = slow_fars(web)
        for k, table in tables.items():
            ties = tuple((a, b) for a, b in pairs_of(many) if fars[a][b] is not None and fars[a][b] <= k)
            table.setdefault((many, ties), []).append(web)
    return {k: {web: tuple(sorted(roots)) for web, roots in table.items()} for k, table in tables.items()}


def slow_by(web, k):
    """All roots by k, found by trying all webs."""
    return by_table(web[0])[k].get(web, ())


def truths_of(web, root):
    """For each tie of the web, whether the root has it."""
    return tuple(tie in root[1] for tie in web[1])


def beginnings(web):
    """All beginnings for a web."""
    return [begun for size in range(len(web[1]) + 1) for begun in itertools.product((False, True), repeat=size)]


def slow_begun(web, begun):
    """The roots that begin so."""
    return [root for root in slow_roots(web) if truths_of(web, root)[:len(begun)] == begun]


def tied(web, one, other):
    return tuple(sorted((one, other))) in web[1]


def tuples_of(many):
    """All rising tuples of places, the empty one among them."""
    return [places for size in range(many + 1) for places in itertools.combinations(range(many), size)]


def slow_knots(web):
    return [places for places in tuples_of(web[0])
            if places and all(tied(web, a, b) for a, b in itertools.combinations(places, 2))]


def slow_tree(web):
    return len(web[1]) == web[0] - 1 and all(far is not None for far in slow_fars(web)[0])


@lru_cache(maxsize=None)
def trees_of(many):
    """All trees of so many places, found among all webs."""
    sets = itertools.combinations(pairs_of(many), many - 1)
    return tuple(sorted((many, ties) for ties in sets if slow_tree((many, ties))))


@lru_cache(maxsize=None)
def slow_rings(web):
    """All rings of a web, of three places or more, each way from each place followed to its end."""
    found = []

    def follow(way):
        if len(way) >= 3 and tied(web, way[-1], way[0]):
            found.append(way)
        for place in range(web[0]):
            if place not in way and tied(web, way[-1], place):
                follow(way + (place,))

    for place in range(web[0]):
        follow((place,))
    return tuple(found)


def nested(thing, deep):
    for _ in range(deep):
        thing = (thing,)
    return thing


# None of these is a place, a number that may be handed in, a web, a pair, a show or a renaming.
NO_THINGS = [
    None, True, False, -1, 7, 10 ** 39, -(10 ** 39), "", "0", "web", "1 2",
    [], [0], [0, 1], [(0, 1)], {}, {0: 1}, {"many": 1}, (None,), (True, False), (0, "1"),
    ([0, 1],), ((0, 1), None), (-1,), (10 ** 39,), nested(0, 19), [[[[0]]]], ({},), "x" * 100, nested(0, 20),
    (0,) * 999, list(range(999)),
]


# Each of these stands in turn where a part of a good thing is due.
WRONG_PARTS = [
    None, True, False, -1, 6, 10 ** 39, "", "0", "more", [], [0], (), (0,), ((0,),), {}, {0: 1}, nested(0, 15),
]


def wrong_for(part):
    """Things that are near to a part but for their kind or number, and things far from it."""
    near = [[part], (part,), {0: part}]
    if isinstance(part, int):
        # A truth equals 0 or 1 in Python.
        near += [str(part), part + 1, part - 1, part - 6, -part, part == 1, [[part]]]
    if isinstance(part, str):
        near += [part.upper(), part + " ", part[:-1]]
    return WRONG_PARTS + near


def spoilt(thing):
    """The tuple with something wrong in it, at any depth; some of these may be good all the same."""
    told = list(NO_THINGS) + wrong_for(thing)
    told += [list(thing), dict(enumerate(thing)), str(thing), nested(thing, 15), thing[:-1], thing[1:], thing[::-1],
             thing + (None,), thing + (0,), thing + thing[-1:], thing[:1] + thing, (thing, thing), thing + thing]
    for at, part in enumerate(thing):
        wrong = spoilt(part) if isinstance(part, tuple) else wrong_for(part)
        told += [thing[:at] + (one,) + thing[at + 1:] for one in wrong]
    return told


def is_one_of(thing, goods):
    """Whether it is one of these to the kind of its least part, which is what repr shows."""
    return repr(thing) in {repr(good) for good in goods}


def fields_of_too_great(test, call, *things):
    """The fields of the TooGreat by which the call is refused."""
    with test.assertRaises(TooGreat, msg=repr((call, things))) as caught:
        call(*things)
    return (caught.exception.many, caught.exception.most)


def refused(test, kind, call, *things):
    """Sees to it that the call is refused with just this class."""
    with test.assertRaises(kind, msg=repr((call, things))) as caught:
        call(*things)
    test.assertIs(type(caught.exception), kind)


def same_kind(one, other):
    """Whether both are the same to the kind of the least thing: True is not 1, () is not []."""
    if type(one) is not type(other):
        return False
    if isinstance(one, (list, tuple)):
        return len(one) == len(other) and all(same_kind(a, b) for a, b in zip(one, other))
    return one == other
