"""Hands left out of a run: what is left goes as it did, or some touch sees that they lack."""

from leastrecord.errors import NoFit, NoGo
from leastrecord.opens import is_enough
from leastrecord.plain import is_same, is_tuple_of
from leastrecord.records import is_record, whole_record
from leastrecord.runs import touches_of
from leastrecord.steps import gone


def left_run(run, hands):
    return tuple([step for step in run if step[0] not in hands])


def first_seen(program, stand, run, hands):
    here = stand
    for touch, step in zip(touches_of(program, stand, run), run):
        if step[0] not in hands:
            try:
                told = gone(program, here, step[0], step[1])
            except NoGo:
                return touch[0]
            if told[1][2] != touch[1][2]:
                return touch[0]
            here = told[0]
    return None


def left_out(program, stand, run, hands):
    event = first_seen(program, stand, run, hands)
    if event is not None:
        return ("seen", event)
    left = left_run(run, hands)
    return ("left", left, whole_record(program, stand, left))


def lets_left(program, stand, run, hands, thing):
    event = first_seen(program, stand, run, hands)
    if event is not None:
        return is_same(thing, ("seen", event))
    left = left_run(run, hands)
    if not is_tuple_of(thing, 3) or not is_same(thing[:2], ("left", left)):
        return False
    return is_record(program, stand, thing[2]) and is_enough_for(program, stand, left, thing[2])


def is_enough_for(program, stand, run, record):
    """Whether a record is enough, where the run may not even fit it."""
    try:
        return is_enough(program, stand, run, record)
    except NoFit:
        return False
