"""Needs: which touch of a run has to come ahead of which one of another hand."""

from leastrecord.runs import touches_of

# The touches whose mark is how many of their kind came ahead of them.
COUNTED = ("send", "fetch", "say")


def needs(program, stand, run):
    return needs_among(touches_of(program, stand, run))


def needs_among(touches):
    """The needs of touches that stand as (EVENT, LOOK) in their order."""
    pairs = []
    for place, touch in enumerate(touches):
        for other in touches[:place]:
            if other[0][0] != touch[0][0] and is_needed(touches, other, touch):
                pairs.append((other[0], touch[0]))
    return tuple(sorted(pairs))


def is_needed(touches, one, other):
    """Whether a touch of another hand, behind the one, finds what it tells by the one."""
    event = one[0]
    look = one[1]
    mark = other[1][3]
    if look[1] != other[1][1]:
        return False
    kinds = (look[0], other[1][0])
    if kinds == ("put", "get") or kinds == ("put", "put"):
        return mark == event
    if kinds == ("get", "put"):
        return mark == look[3]
    if kinds == ("take", "take"):
        return mark == free_from(touches, event[0], look[1], event[1])
    return kinds[0] == kinds[1] and kinds[0] in COUNTED and mark == look[3] + 1


def free_from(touches, hand, lock, number):
    """The EVENT of a hand's first free of a lock from that number on, None where there is none."""
    for event, look in touches:
        if event[0] == hand and event[1] >= number and look[0] == "free" and look[1] == lock:
            return event
    return None
