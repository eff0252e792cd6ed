"""What a record leaves open in a run, and whether it is enough."""

from leastrecord.aheads import aheads_among, is_ahead
from leastrecord.fitting import fitted, is_at_end
from leastrecord.needs import needs_among
from leastrecord.steps import GIFTED


def open_of(program, stand, run, record):
    return open_among(program, stand, fitted(program, stand, run, record), record)


def is_enough(program, stand, run, record):
    touches = fitted(program, stand, run, record)
    return is_at_end(stand, touches, record) and open_among(program, stand, touches, record) == []


def open_among(program, stand, touches, record):
    """What is open in touches, (EVENT, LOOK) in the order of a run that fits the record."""
    told = aheads_among(program, stand, touches, record[2])
    gifts = [("gift", event) for event in ungiven(touches, record[1])]
    pairs = [("need", one, other) for one, other in unled(stand, told, needs_among(touches))]
    return sorted(gifts + pairs)


def ungiven(touches, gifts):
    """The events whose gift is None in the record."""
    used = [0 for hand in gifts]
    events = []
    for event, look in touches:
        hand = event[0]
        if look[0] in GIFTED:
            if gifts[hand][used[hand]] is None:
                events.append(event)
            used[hand] += 1
    return events


def unled(stand, told, pairs):
    """The needs whose first event isn't ahead of the second."""
    return [pair for pair in pairs if not is_ahead(stand, told, pair[0], pair[1])]
