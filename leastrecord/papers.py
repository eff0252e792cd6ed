"""Papers: which things have their shape, and the paper of a run."""

from leastrecord.aheads import aheads_among
from leastrecord.fitting import kept
from leastrecord.plain import is_between, is_tuple_of, is_whole
from leastrecord.runs import tables_of
from leastrecord.stands import COUNTS


def is_paper(program, stand, record, thing):
    owed = [most - count for most, count in zip(record[0], stand[COUNTS])]
    if not is_tuple_of(thing, 3):
        return False
    return is_order(owed, thing[0]) and is_table(owed, thing[1]) and are_claims(owed, thing[2])


def is_order(owed, thing):
    """Whether a thing has each hand as often as it owes touches."""
    if not isinstance(thing, tuple) or not all([is_between(hand, 0, len(owed) - 1) for hand in thing]):
        return False
    return [thing.count(hand) for hand in range(len(owed))] == owed


def is_table(owed, thing):
    """Whether a thing has for each hand a tuple of as many things as it owes touches."""
    return is_tuple_of(thing, len(owed)) and all([is_tuple_of(part, many) for part, many in zip(thing, owed)])


def are_claims(owed, thing):
    return is_table(owed, thing) and all([are_claims_of_one(owed, claims) for claims in thing])


def are_claims_of_one(owed, claims):
    return all([is_tuple_of(claim, len(owed)) and are_numbers(claim) for claim in claims])


def are_numbers(claim):
    return all([is_whole(number) and number >= 0 for number in claim])


def paper_of(program, stand, run, record):
    touches = kept(program, stand, run, record)
    order = tuple([event[0] for event, look in touches])
    return (order, tables_of(program, stand, run), aheads_among(program, stand, touches, record[2]))
