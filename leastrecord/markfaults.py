"""The faults of a paper's marks, each thing alone, and of its edges, by the order."""

from leastrecord.orders import places_in, touches_in
from leastrecord.plain import is_same
from leastrecord.programs import names_of
from leastrecord.stands import PLACE_OF
from leastrecord.steps import GIFTED


def mark_fault(program, stand, paper):
    touches = touches_in(stand, paper)
    faults = [event for event, look in touches if look[0] in GIFTED and look[3] is not None]
    meetings = [touch for touch in touches if touch[1][0] not in GIFTED]
    for sort in PLACE_OF:
        for name, state in zip(names_of(program, sort), stand[PLACE_OF[sort]]):
            met = [touch for touch in meetings if touch[1][1] == name]
            faults.extend(faults_at(sort, state, met))
    return min(faults, default=None)


def faults_at(sort, state, touches):
    """The events that tell something else than they find at one thing, which has this state at the stand."""
    if sort == "box":
        return box_faults(state, touches)
    if sort == "lock":
        return lock_faults(state, touches)
    if sort == "lane":
        return lane_faults(state, touches)
    return door_faults(state, touches)


def box_faults(state, touches):
    value = state[0]
    mark = state[1]
    faults = []
    for event, look in touches:
        if not is_same(look[3], mark) or (look[0] == "get" and look[2] != value):
            faults.append(event)
        if look[0] == "put":
            value = look[2]
            mark = event
    return faults


def lock_faults(state, touches):
    is_held = state[0] is not None
    mark = state[1]
    faults = []
    for event, look in touches:
        if look[0] == "take":
            is_right = is_same(look[3], mark) and not is_held
        else:
            is_right = look[3] is None
            mark = event
        is_held = look[0] == "take"
        if not is_right:
            faults.append(event)
    return faults


def lane_faults(state, touches):
    sent = state[0]
    fetched = state[1]
    # Letters stay here when they are fetched: a fetch that comes too soon takes none away from the next.
    letters = list(state[2])
    faults = []
    for event, look in touches:
        if look[0] == "send":
            is_right = is_same(look[3], sent)
            sent += 1
            letters.append(look[2])
        else:
            place = fetched - state[1]
            is_right = is_same(look[3], fetched) and place < len(letters) and letters[place] == look[2]
            fetched += 1
        if not is_right:
            faults.append(event)
    return faults


def door_faults(state, touches):
    return [touch[0] for said, touch in enumerate(touches, start=state) if not is_same(touch[1][3], said)]


def edge_fault(stand, record, paper):
    places = places_in(stand, paper[0])
    return min([second for first, second in record[2] if places[first] > places[second]], default=None)
