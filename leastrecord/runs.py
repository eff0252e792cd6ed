"""Runs: walked step by step, what they tell, and where two part."""

from leastrecord.errors import NoGo, NoRun
from leastrecord.plain import is_tuple_of
from leastrecord.programs import number_of
from leastrecord.stands import COUNTS, PLACE_OF, hands_of
from leastrecord.steps import gone

MOST_STEPS = 60


def walked(program, stand, run):
    if not isinstance(run, tuple) or len(run) > MOST_STEPS:
        raise NoRun(-1, "shape")
    here = stand
    touches = []
    for place, step in enumerate(run):
        if not is_tuple_of(step, 2):
            raise NoRun(place, "shape")
        told = stepped(program, here, place, step)
        here = told[0]
        touches.append((step[0], told[1]))
    return (here, tuple(touches))


def stepped(program, stand, place, step):
    try:
        return gone(program, stand, step[0], step[1])
    except NoGo as refusal:
        raise NoRun(place, refusal.word) from refusal


def tables_of(program, stand, run):
    touches = walked(program, stand, run)[1]
    return tuple([looks_of(touches, hand) for hand in hands_of(program)])


def looks_of(touches, hand):
    return tuple([look for maker, look in touches if maker == hand])


def parted(program, stand, run, other):
    one_tables = tables_of(program, stand, run)
    other_tables = tables_of(program, stand, other)
    for hand, looks in enumerate(one_tables):
        for ahead, pair in enumerate(zip(looks, other_tables[hand])):
            if pair[0] != pair[1]:
                return (hand, stand[COUNTS][hand] + ahead)
    return None


def history(program, stand, run, name):
    touches = touches_of(program, stand, run)
    # A clock's and a lot's look have "" as thing: that is nothing's name.
    if all([number_of(program, sort, name) is None for sort in PLACE_OF]):
        return []
    return [touch for touch in touches if touch[1][1] == name]


def touches_of(program, stand, run):
    """The touches of a run as (EVENT, LOOK), in their order."""
    return with_events(stand, walked(program, stand, run)[1])


def with_events(stand, touches):
    """Touches that stand as (hand, LOOK), as (EVENT, LOOK)."""
    events = events_by(stand, [hand for hand, look in touches])
    return list(zip(events, [look for hand, look in touches]))


def events_by(stand, hands):
    """The EVENTs that hands make, one behind the other, from a stand on."""
    counts = list(stand[COUNTS])
    events = []
    for hand in hands:
        events.append((hand, counts[hand]))
        counts[hand] += 1
    return events


def counts_behind(stand, hands):
    """How many touches each hand has made behind these, one behind the other, from a stand on."""
    return tuple([count + hands.count(hand) for hand, count in enumerate(stand[COUNTS])])


def entry_of(stand, table, event):
    """What a tuple with a tuple for each hand, of an entry for each touch from the stand on, has of an EVENT."""
    return table[event[0]][event[1] - stand[COUNTS][event[0]]]
