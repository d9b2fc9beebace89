"""What several test files share: webs, wrong things, and slow answers found another way."""

import itertools
from functools import lru_cache


def pairs_of(many):
    return list(itertools.combinations(range(many), 2))


def webs_of(many):
    """All webs of so many places."""
    pairs = pairs_of(many)
    return [
        (many, ties)
        for size in range(len(pairs) + 1)
        for ties in itertools.combinations(pairs, size)
    ]


def small_webs():
    """All webs of one to four places."""
    return [web for many in range(1, 5) for web in webs_of(many)]


def many_webs():
    """All webs of one to five places, and every 31st of six."""
    return small_webs() + webs_of(5) + webs_of(6)[::31]


def full_web(many):
    return (many, tuple(pairs_of(many)))


def path_web(many):
    return (many, tuple((a, a + 1) for a in range(many - 1)))


def slow_fars(web):
    """A table of how far places are apart, by way of each place in turn."""
    many, ties = web
    fars = [[None] * many for _ in range(many)]
    for place in range(many):
        fars[place][place] = 0
    for a, b in ties:
        fars[a][b] = fars[b][a] = 1
    for by in range(many):
        for a in range(many):
            for b in range(many):
                if fars[a][by] is not None and fars[by][b] is not None:
                    length = fars[a][by] + fars[by][b]
                    if fars[a][b] is None or length < fars[a][b]:
                        fars[a][b] = length
    return fars


def slow_steps(web, k):
    fars = slow_fars(web)
    ties = [(a, b) for a, b in pairs_of(web[0]) if fars[a][b] is not None and fars[a][b] <= k]
    return (web[0], tuple(ties))


def slow_two_step(web):
    """The two-step web straight from its words: one tie apart, or two by way of some place."""
    many, ties = web
    tied = set(ties) | {(b, a) for a, b in ties}
    return (many, tuple(
        (a, b) for a, b in pairs_of(many)
        if (a, b) in tied or any((a, c) in tied and (c, b) in tied for c in range(many))
    ))


@lru_cache(maxsize=None)
def roots_table(many):
    """For each web that has roots the sorted tuple of them, found by trying all webs."""
    table = {}
    for web in webs_of(many):
        table.setdefault(slow_two_step(web), []).append(web)
    return {web: tuple(sorted(roots)) for web, roots in table.items()}


def slow_roots(web):
    return roots_table(web[0]).get(web, ())


def nested(thing, deep):
    for _ in range(deep):
        thing = (thing,)
    return thing


# None of these is a place, a number that may be handed in, a web, a pair, a show or a renaming.
NO_THINGS = [
    None, True, False, -1, 7, 10 ** 39, -(10 ** 39), "", "0", "web", "1 2",
    [], [0], [0, 1], [(0, 1)], {}, {0: 1}, {"many": 1}, (None,), (True, False), (0, "1"),
    ([0, 1],), ((0, 1), None), (-1,), (10 ** 39,), nested(0, 19), [[[[0]]]], ({},), "x" * 100,
    (0,) * 999, list(range(999)),
]


def same_kind(one, other):
    """Whether both are the same to the kind of the least thing: True is not 1, () is not []."""
    if type(one) is not type(other):
        return False
    if isinstance(one, (list, tuple)):
        return len(one) == len(other) and all(same_kind(a, b) for a, b in zip(one, other))
    return one == other
