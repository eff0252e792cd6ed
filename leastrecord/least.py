"""The least that must be kept of a run."""

from leastrecord.aheads import aheads_among
from leastrecord.errors import NoFit
from leastrecord.fitting import kept
from leastrecord.needs import needs_among
from leastrecord.opens import open_among, unled
from leastrecord.records import whole_record, without_edge


def spare(program, stand, run, record):
    touches = enough(program, stand, run, record)
    pairs = needs_among(touches)
    return [edge for edge in record[2] if leads(program, stand, touches, pairs, without_edge(record, edge))]


def lessened(program, stand, run, record):
    touches = enough(program, stand, run, record)
    pairs = needs_among(touches)
    least = record
    # An edge that can't be left out of many can't be left out of fewer, so each is looked at once.
    for edge in record[2]:
        fewer = without_edge(least, edge)
        if leads(program, stand, touches, pairs, fewer):
            least = fewer
    return least


def least_record(program, stand, run):
    return lessened(program, stand, run, whole_record(program, stand, run))


def enough(program, stand, run, record):
    """The touches of a run as (EVENT, LOOK), refused where the record isn't enough for it."""
    touches = kept(program, stand, run, record)
    if open_among(program, stand, touches, record) != []:
        raise NoFit(len(touches), "open")
    return touches


def leads(program, stand, touches, pairs, record):
    """Whether by the record's edges each need's first event is ahead of its second."""
    return unled(stand, aheads_among(program, stand, touches, record[2]), pairs) == []
