"""What the other modules ask of any plain thing."""


def is_whole(thing):
    """A truth is an int for Python, but no whole number here."""
    return isinstance(thing, int) and not isinstance(thing, bool)


def is_between(thing, least, most):
    return is_whole(thing) and least <= thing <= most


def is_value(thing):
    return is_between(thing, 0, 999)


def is_tuple_of(thing, many):
    return isinstance(thing, tuple) and len(thing) == many
