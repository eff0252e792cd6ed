"""Cuts: a run and a record that is enough for it, parted into two pieces."""

from leastrecord.aheads import aheads_among
from leastrecord.errors import NoCut
from leastrecord.fitting import kept
from leastrecord.opens import open_among
from leastrecord.plain import is_between, is_tuple_of
from leastrecord.records import recorded
from leastrecord.runs import counts_behind, entry_of, walked
from leastrecord.stands import COUNTS


def counts_at(stand, run, place):
    return counts_behind(stand, [hand for hand, gift in run[:place]])


def is_cut(program, stand, run, record, thing):
    touches = unopened(program, stand, run, record)
    return are_counts(stand, record, thing) and has_all_ahead(program, stand, touches, record, thing)


def cut(program, stand, run, record, counts):
    touches = unopened(program, stand, run, record)
    if not are_counts(stand, record, counts):
        raise NoCut("counts")
    if not has_all_ahead(program, stand, touches, record, counts):
        raise NoCut("ahead")
    events = [event for event, look in touches]
    begin = tuple([step for event, step in zip(events, run) if is_below(event, counts)])
    rest = tuple([step for event, step in zip(events, run) if not is_below(event, counts)])
    begin_edges = [edge for edge in record[2] if all([is_below(event, counts) for event in edge])]
    rest_edges = [edge for edge in record[2] if not any([is_below(event, counts) for event in edge])]
    told = walked(program, stand, begin)
    later = walked(program, told[0], rest)
    return ((begin, recorded(told, begin_edges)), (told[0], rest, recorded(later, rest_edges)))


def unopened(program, stand, run, record):
    """The touches of a run as (EVENT, LOOK), refused where the record isn't enough for it."""
    touches = kept(program, stand, run, record)
    if open_among(program, stand, touches, record) != []:
        raise NoCut("open")
    return touches


def are_counts(stand, record, thing):
    """Whether a thing has for each hand a number from its count at the stand to its upto."""
    if not is_tuple_of(thing, len(record[0])):
        return False
    return all([is_between(number, least, most) for number, least, most in zip(thing, stand[COUNTS], record[0])])


def has_all_ahead(program, stand, touches, record, counts):
    """Whether with each touch below the counts all that is ahead of it is below them."""
    told = aheads_among(program, stand, touches, record[2])
    below = [event for event, look in touches if is_below(event, counts)]
    return all([is_within(entry_of(stand, told, event), counts) for event in below])


def is_within(numbers, counts):
    return all([number <= count for number, count in zip(numbers, counts)])


def is_below(event, counts):
    return event[1] < counts[event[0]]
