"""Partings: runs that fit a record as another run does, and part from it."""

from leastrecord.aheads import aheads_among, is_ahead
from leastrecord.fitting import kept
from leastrecord.opens import open_among
from leastrecord.records import without_edge, without_gift
from leastrecord.steps import GIFTED, gone


def parting(program, stand, run, record):
    return parting_among(program, stand, kept(program, stand, run, record), record)


def partings(program, stand, run, record):
    touches = kept(program, stand, run, record)
    told = []
    for entry, rest in left_records(record):
        told.append((entry, parting_among(program, stand, touches, rest)))
    return told


def left_records(record):
    """For each entry of a record, what is left without it."""
    left = [(("edge", edge), without_edge(record, edge)) for edge in record[2]]
    for hand, gifts in enumerate(record[1]):
        for n, gift in enumerate(gifts):
            if gift is not None:
                left.append((("gift", hand, n), without_gift(record, hand, n)))
    return left


def parting_among(program, stand, touches, record):
    """A parting of touches, (EVENT, LOOK) in the order of a run that keeps the record."""
    entries = open_among(program, stand, touches, record)
    if entries == []:
        return None
    order = [event for event, look in touches]
    # Ahead of the first event that has something open all goes as it did.
    entry = min(entries, key=lambda one: order.index(one[-1]))
    told = aheads_among(program, stand, touches, record[2])
    return led_till_unlike(program, stand, dict(touches), way_by(stand, order, told, entry), entry)


def way_by(stand, order, told, entry):
    """The events to be made: up to the open entry's last one, then up to the one that it needs."""
    events = up_to(stand, order, told, entry[-1])
    return events + [event for event in up_to(stand, order, told, entry[1]) if event not in events]


def up_to(stand, order, told, event):
    """What is ahead of an event, in the run's order, and the event."""
    return [one for one in order if one == event or is_ahead(stand, told, one, event)]


def led_till_unlike(program, stand, looks, events, entry):
    """The run that makes these events, broken off at the first one whose look is another."""
    here = stand
    steps = []
    for event in events:
        gift = gift_by(looks[event], entry == ("gift", event))
        told = gone(program, here, event[0], gift)
        steps.append((event[0], gift))
        if told[1] != looks[event]:
            break
        here = told[0]
    return tuple(steps)


def gift_by(look, is_open):
    if look[0] not in GIFTED:
        return None
    if is_open:
        # Both are below each lot's n.
        return 1 if look[2] == 0 else 0
    return look[2]
