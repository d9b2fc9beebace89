"""Knots of a web, and the stars by which a root of it is seen."""

from rootwebs.errors import NoRoot
from rootwebs.kinds import is_rising_places
from rootwebs.roots import first_root, roots_many
from rootwebs.webs import is_many, is_tied, star_of, web_of


def knot_good(web, thing):
    """Whether it is a knot of the web [6.1]."""
    if not is_rising_places(web[0], thing):
        return False
    return all([is_tied(web, a, b) for a in thing for b in thing if a < b])


def fits_knot(web, knot, place):
    """Whether the place is tied to all places of the knot; one of the knot itself never is."""
    return all([is_tied(web, other, place) for other in knot])


def knots_of(web):
    """The list of all knots of the web."""
    knots = []
    for place in range(web[0]):
        knots = knots + [(place,)] + [knot + (place,) for knot in knots if fits_knot(web, knot, place)]
    return knots


def great_knots(web):
    """The list, rising, of the knots to which no place can be put [6.1]."""
    places = list(range(web[0]))
    return sorted([knot for knot in knots_of(web) if not any([fits_knot(web, knot, place) for place in places])])


def knots_many(web):
    """How many knots there are [6.1]."""
    return len(knots_of(web))


def stars_good(thing):
    """Whether it is stars [6.2]."""
    if not isinstance(thing, tuple) or not is_many(len(thing)):
        return False
    many = len(thing)
    if not all([is_rising_places(many, star) for star in thing]):
        return False
    return all([is_even(thing, place) for place in range(many)])


def is_even(stars, place):
    """Whether the place's star has itself, and just those places in whose stars it is."""
    star = stars[place]
    return place in star and all([(other in star) == (place in stars[other]) for other in range(len(stars))])


def check_stars(thing):
    """Refuses what is no stars."""
    if not stars_good(thing):
        raise NoRoot()


def stars_of(web):
    """The stars of a web [6.2]."""
    return tuple([star_of(web, place) for place in range(web[0])])


def web_by(stars):
    """The web whose stars they are [6.2]."""
    check_stars(stars)
    return web_of(len(stars), [(a, b) for a, star in enumerate(stars) for b in star if a < b])


def holds_good(web, thing):
    """Whether it is stars that hold the web [6.3]."""
    # Stars that are no knots would join places that the web does not tie, so one look does for both.
    return stars_good(thing) and joined_by(thing) == web


def joined_by(stars):
    """The web in which any two places that are together in some star are tied [6.3]."""
    check_stars(stars)
    return web_of(len(stars), [(a, b) for star in stars for a in star for b in star if a < b])


def first_stars(web):
    """The stars of the first root, None where there is none [6.4]."""
    root = first_root(web)
    return None if root is None else stars_of(root)


def held_many(web):
    """How many stars hold the web: as many as it has roots [6.4]."""
    return roots_many(web)
