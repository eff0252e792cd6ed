"""What the other modules ask of any plain thing."""


def is_whole(thing):
    """A truth is an int for Python, but no whole number here."""
    return isinstance(thing, int) and not isinstance(thing, bool)


def is_between(thing, least, most):
    return is_whole(thing) and least <= thing <= most


def is_value(thing):
    return is_between(thing, 0, 999)


def is_tuple_of(thing, many):
    return isinstance(thing, tuple) and len(thing) == many


def is_same(thing, right):
    """Whether a thing is the right one, of its kind, too: True is no 1, a list no tuple."""
    if isinstance(right, tuple):
        return is_tuple_of(thing, len(right)) and all([is_same(one, other) for one, other in zip(thing, right)])
    return thing == right and isinstance(thing, bool) == isinstance(right, bool)
