"""Steps: one hand's touch, made at a stand."""

from leastrecord.errors import NoGo
from leastrecord.plain import is_between
from leastrecord.programs import number_of
from leastrecord.seats import may_come, seat_behind, touch_of
from leastrecord.stands import COUNTS, PLACE_OF, SEATS, state_of, wait_of

# The touches that take a gift from without.
GIFTED = ("clock", "lot", "hear")

# Of each touch that meets something of the stand: the sort of that.
MET_SORT = {
    "get": "box", "put": "box", "take": "lock", "free": "lock", "send": "lane", "fetch": "lane", "say": "door",
}


def may_go(program, stand, hand):
    return wait_of(program, stand, hand) is None


def gone(program, stand, hand, gift):
    touch = due_touch(program, stand, hand, gift)
    kind = touch[0]
    thing = touch[1]
    if kind in GIFTED:
        return (with_hand_on(program, stand, hand, gift), (kind, thing, gift, None))
    sort = MET_SORT[kind]
    met = meeting(touch, (hand, stand[COUNTS][hand]), state_of(program, stand, sort, thing))
    behind = with_state(program, stand, sort, thing, met[2])
    return (with_hand_on(program, behind, hand, met[0]), (kind, thing, met[0], met[1]))


def due_touch(program, stand, hand, gift):
    """The touch that the hand makes with this gift, else the refusal that is due first."""
    if not is_between(hand, 0, len(program[4]) - 1):
        raise NoGo("hand")
    wait = wait_of(program, stand, hand)
    if wait == "end":
        raise NoGo("end")
    if wait is not None:
        raise NoGo(wait[0])
    touch = touch_of(program, hand, stand[SEATS][hand])
    if not takes_gift(touch, gift):
        raise NoGo("gift")
    return touch


def takes_gift(touch, gift):
    return may_come(touch, gift) if touch[0] in GIFTED else gift is None


def meeting(touch, event, state):
    """Of a thing that a touch finds in this state: the look's value and mark, and the state behind it."""
    kind = touch[0]
    value = touch[2]
    if kind == "get":
        return (state[0], state[1], state)
    if kind == "put":
        return (value, state[1], (value, event))
    if kind == "take":
        return (None, state[1], (event[0], state[1]))
    if kind == "free":
        return (None, None, (None, event))
    if kind == "send":
        return (value, state[0], (state[0] + 1, state[1], state[2] + (value,)))
    if kind == "fetch":
        return (state[2][0], state[1], (state[0], state[1] + 1, state[2][1:]))
    return (value, state, state + 1)


def with_hand_on(program, stand, hand, value):
    """The stand with the hand's touch counted, and the hand at its next one."""
    seat = seat_behind(program, hand, stand[SEATS][hand], value)
    counted = replaced(stand, COUNTS, replaced(stand[COUNTS], hand, stand[COUNTS][hand] + 1))
    return replaced(counted, SEATS, replaced(stand[SEATS], hand, seat))


def with_state(program, stand, sort, name, state):
    place = PLACE_OF[sort]
    return replaced(stand, place, replaced(stand[place], number_of(program, sort, name), state))


def replaced(parts, place, part):
    return parts[:place] + (part,) + parts[place + 1:]
