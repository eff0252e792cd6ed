"""Sums: which things are some, and what they are worth."""

from leastrecord.plain import is_tuple_of, is_value
from leastrecord.words import SUM_PARTS, is_name

MOST_SUMS = 12
DEEPEST = 5
WORTHS = 1000


def is_sum(thing):
    return 1 <= sums_within(thing, 1) <= MOST_SUMS


def sums_within(thing, deep):
    """How many sums a thing holds, itself among them; 0 where it is none."""
    if deep > DEEPEST or not isinstance(thing, tuple) or thing == ():
        return 0
    word = thing[0]
    if word == "num":
        return 1 if is_tuple_of(thing, 2) and is_value(thing[1]) else 0
    if word == "of":
        return 1 if is_tuple_of(thing, 2) and is_name(thing[1]) else 0
    # The kind first: what can't be a key can't be looked up.
    if not isinstance(word, str) or word not in SUM_PARTS or len(thing) != SUM_PARTS[word] + 1:
        return 0
    inner = [sums_within(part, deep + 1) for part in thing[1:]]
    return 0 if 0 in inner else 1 + sum(inner)


def worth(tree, pockets):
    """The worth of a sum, with pockets as in a seat."""
    word = tree[0]
    if word == "num":
        return tree[1]
    if word == "of":
        return dict(pockets).get(tree[1], 0)
    one = worth(tree[1], pockets)
    if word == "not":
        return 1 if one == 0 else 0
    return joined_worth(word, one, worth(tree[2], pockets))


def joined_worth(word, one, other):
    if word == "add":
        return (one + other) % WORTHS
    if word == "sub":
        return (one - other) % WORTHS
    if word == "mul":
        return (one * other) % WORTHS
    if word == "less":
        return 1 if one < other else 0
    return 1 if one == other else 0
