"""What kind of thing it is that was handed in."""


def is_whole(thing):
    """Whether it is a whole number: Python takes truths for ints, the document does not."""
    return isinstance(thing, int) and not isinstance(thing, bool)


def is_whole_from(thing, least, most):
    """Whether it is a whole number from the least one to the most."""
    return is_whole(thing) and least <= thing <= most


def is_place(many, thing):
    """Whether it is one of so many places."""
    return is_whole_from(thing, 0, many - 1)


def is_places(many, thing):
    """Whether it is a tuple of places alone, in any order, perhaps one twice."""
    return isinstance(thing, tuple) and all([is_place(many, place) for place in thing])


def is_rising(things):
    """Whether each of these, which can be compared, is greater than the one ahead."""
    return all([things[at - 1] < things[at] for at in range(1, len(things))])


def is_rising_places(many, thing):
    """Whether it is a rising tuple of one place or more."""
    return is_places(many, thing) and len(thing) > 0 and is_rising(thing)


def is_headed(thing, word, size):
    """Whether it is a tuple of so many things, the word ahead."""
    return isinstance(thing, tuple) and len(thing) == size and thing[0] == word
