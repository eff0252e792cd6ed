"""Records: which things are some, the whole one of a run, and one without an entry."""

from leastrecord.errors import NoFit
from leastrecord.needs import needs_among
from leastrecord.plain import is_between, is_tuple_of, is_value, is_whole
from leastrecord.runs import looks_of, walked, with_events
from leastrecord.stands import COUNTS
from leastrecord.steps import GIFTED, replaced


def is_record(program, stand, thing):
    if not is_tuple_of(thing, 3):
        return False
    counts = stand[COUNTS]
    return is_upto(counts, thing[0]) and are_gifts(counts, thing[1]) and are_edges(counts, thing[0], thing[2])


def is_upto(counts, thing):
    if not is_tuple_of(thing, len(counts)):
        return False
    return all([is_whole(most) and most >= count for most, count in zip(thing, counts)])


def are_gifts(counts, thing):
    return is_tuple_of(thing, len(counts)) and all([are_gifts_of_one(gifts) for gifts in thing])


def are_gifts_of_one(thing):
    return isinstance(thing, tuple) and all([gift is None or is_value(gift) for gift in thing])


def are_edges(counts, upto, thing):
    if not isinstance(thing, tuple) or not all([is_edge(counts, upto, edge) for edge in thing]):
        return False
    return all([edge < later for edge, later in zip(thing, thing[1:])])


def is_edge(counts, upto, thing):
    if not is_tuple_of(thing, 2) or not all([is_event(counts, upto, event) for event in thing]):
        return False
    return thing[0][0] != thing[1][0]


def is_event(counts, upto, thing):
    """Whether a thing is an EVENT from the counts on and below upto."""
    if not is_tuple_of(thing, 2) or not is_between(thing[0], 0, len(counts) - 1):
        return False
    return is_between(thing[1], counts[thing[0]], upto[thing[0]] - 1)


def whole_record(program, stand, run):
    told = walked(program, stand, run)
    return recorded(told, needs_among(with_events(stand, told[1])))


def recorded(told, edges):
    """The record of a run that was walked, with its counts at the end, all its gifts, and these edges."""
    counts = told[0][COUNTS]
    gifts = [gifts_in(looks_of(told[1], hand)) for hand in range(len(counts))]
    return (counts, tuple(gifts), tuple(edges))


def gifts_in(looks):
    """The gifts that one hand's looks tell."""
    return tuple([look[2] for look in looks if look[0] in GIFTED])


def without_edge(record, edge):
    if edge not in record[2]:
        raise NoFit(-1, "edge")
    return (record[0], record[1], tuple([other for other in record[2] if other != edge]))


def without_gift(record, hand, n):
    if not is_between(hand, 0, len(record[1]) - 1) or not is_between(n, 0, len(record[1][hand]) - 1):
        raise NoFit(-1, "gift")
    gifts = record[1][hand]
    if gifts[n] is None:
        raise NoFit(-1, "gift")
    return (record[0], replaced(record[1], hand, replaced(gifts, n, None)), record[2])
