"""Stands: the first one, who may go, and what the others wait for."""

from leastrecord.programs import number_of
from leastrecord.seats import first_seat, touch_of

# The places of a stand's six parts: two by hand, four by things of a sort.
COUNTS = 0
SEATS = 1
PLACE_OF = {"box": 2, "lock": 3, "lane": 4, "door": 5}


def first_stand(program):
    hands = hands_of(program)
    return (
        tuple([0 for hand in hands]),
        tuple([first_seat(program, hand) for hand in hands]),
        tuple([(box[1], None) for box in program[0]]),
        tuple([(None, None) for lock in program[1]]),
        tuple([(0, 0, ()) for lane in program[2]]),
        tuple([0 for door in program[3]]),
    )


def hands_of(program):
    """The hands' numbers."""
    return list(range(len(program[4])))


def state_of(program, stand, sort, name):
    """What a stand has of one box, lock, lane or door."""
    return stand[PLACE_OF[sort]][number_of(program, sort, name)]


def wait_of(program, stand, hand):
    """What one hand waits for, None where it may go."""
    touch = touch_of(program, hand, stand[SEATS][hand])
    if touch is None:
        return "end"
    if touch[0] == "take":
        holder = state_of(program, stand, "lock", touch[1])[0]
        return None if holder is None else ("lock", touch[1], holder)
    if touch[0] == "fetch" and state_of(program, stand, "lane", touch[1])[2] == ():
        return ("letter", touch[1])
    return None


def waits(program, stand):
    return tuple([wait_of(program, stand, hand) for hand in hands_of(program)])


def can_go(program, stand):
    return [hand for hand, wait in enumerate(waits(program, stand)) if wait is None]


def is_stuck(program, stand):
    told = waits(program, stand)
    return None not in told and any([wait != "end" for wait in told])
