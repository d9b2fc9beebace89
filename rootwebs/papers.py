"""Papers that no root of a web begins in a given way."""

from rootwebs.errors import NoRoot
from rootwebs.kinds import is_headed, is_places, is_whole_from
from rootwebs.roots import check_begun, check_ties
from rootwebs.webs import is_tied


def paper_good(web, begun, thing):
    """Whether it is a paper for the beginning [4.2]."""
    check_ties(web)
    check_begun(web, begun)
    return is_paper(web, begun, thing)


def is_paper(web, begun, thing):
    """Whether it is a paper of one of the three kinds."""
    if is_headed(thing, "more", 4):
        return is_more(web, begun, thing[1:])
    if is_headed(thing, "lost", 2):
        return is_lost(web, begun, thing[1])
    return is_headed(thing, "cases", 3) and is_cases(web, begun, thing[1], thing[2])


def is_more(web, begun, thing):
    """Whether these are places by which the beginning ties two that the web does not tie."""
    if not is_places(web[0], thing):
        return False
    a, c, b = thing
    return a < b and not is_tied(web, a, b) and joins(fates_of(web, begun), a, c, b)


def is_lost(web, begun, thing):
    """Whether it is the number of a tie that the beginning leaves no step for."""
    if not is_whole_from(thing, 0, len(begun) - 1):
        return False
    a, b = web[1][thing]
    return parts(fates_of(web, begun), a, b)


def is_cases(web, begun, out, inside):
    """Whether a tie is left and these are papers for it being out and being in."""
    if len(begun) == len(web[1]):
        return False
    return is_paper(web, begun + (False,), out) and is_paper(web, begun + (True,), inside)


def fates_of(web, begun):
    """A table with, for any two places, whether they are tied in a root that begins so: True where
    they must be, False where they cannot be, None where this is not decided.
    """
    many, ties = web
    fates = [[False] * many for place in range(many)]
    for at, (a, b) in enumerate(ties):
        fates[a][b] = fates[b][a] = begun[at] if at < len(begun) else None
    return fates


def joins(fates, a, c, b):
    """Whether a and b are two ties apart by way of c, whatever is still decided."""
    return fates[a][c] is True and fates[c][b] is True


def parts(fates, a, b):
    """Whether a and b are neither one nor two ties apart, whatever is still decided."""
    # No place is tied to itself, so a and b as middles part themselves and need no care.
    return fates[a][b] is False and all([one is False or other is False for one, other in zip(fates[a], fates[b])])


def leaf_for(web, begun):
    """Some paper of the first two kinds for the beginning, None where there is none."""
    many, ties = web
    fates = fates_of(web, begun)
    for number, (a, b) in enumerate(ties):
        if parts(fates, a, b):
            return ("lost", number)
    for a in range(many):
        for b in range(a + 1, many):
            middles = [c for c in range(many) if joins(fates, a, c, b)]
            if middles and (a, b) not in ties:
                return ("more", a, middles[0], b)
    return None


def paper_for(web, begun):
    """Some paper for the beginning, None where some root begins so [4.3]."""
    check_ties(web)
    check_begun(web, begun)
    return find_paper(web, begun)


def find_paper(web, begun):
    """Some paper: of the first two kinds where there is one, else by cases."""
    # Where no tie is left and nothing is wrong, what begins so is itself a root.
    leaf = leaf_for(web, begun)
    if leaf is not None or len(begun) == len(web[1]):
        return leaf
    out = find_paper(web, begun + (False,))
    if out is None:
        return None
    inside = find_paper(web, begun + (True,))
    if inside is None:
        return None
    return ("cases", out, inside)


def leaves_of(web, begun, paper):
    """How many papers of the first two kinds a paper for the beginning has [4.3]."""
    if not paper_good(web, begun, paper):
        raise NoRoot()
    return count_leaves(paper)


def count_leaves(paper):
    """How many papers of the first two kinds it has, itself among them."""
    if paper[0] != "cases":
        return 1
    return count_leaves(paper[1]) + count_leaves(paper[2])


def forced(web, begun):
    """The list of truths of the next tie behind which no paper of the first two kinds is [4.4]."""
    check_ties(web)
    check_begun(web, begun)
    if len(begun) == len(web[1]):
        return []
    return [truth for truth in (False, True) if leaf_for(web, begun + (truth,)) is None]
