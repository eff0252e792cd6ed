"""Which runs fit a record, and which ones keep it."""

from leastrecord.errors import NoFit
from leastrecord.runs import touches_of
from leastrecord.stands import COUNTS
from leastrecord.steps import GIFTED


def misfit(program, stand, run, record):
    return first_misfit(touches_of(program, stand, run), record)


def keeps(program, stand, run, record):
    touches = touches_of(program, stand, run)
    return first_misfit(touches, record) is None and is_at_end(stand, touches, record)


def fitted(program, stand, run, record):
    """The touches of a run as (EVENT, LOOK), refused where it doesn't fit the record."""
    touches = touches_of(program, stand, run)
    fault = first_misfit(touches, record)
    if fault is not None:
        raise NoFit(fault[0], fault[1])
    return touches


def kept(program, stand, run, record):
    """The touches of a run as (EVENT, LOOK), refused where it doesn't keep the record."""
    touches = fitted(program, stand, run, record)
    if not is_at_end(stand, touches, record):
        raise NoFit(len(touches), "end")
    return touches


def first_misfit(touches, record):
    made = {}
    used = [0 for gifts in record[1]]
    for place, touch in enumerate(touches):
        event = touch[0]
        word = misfit_word(record, made, used[event[0]], touch)
        if word is not None:
            return (place, word)
        made[event] = True
        if touch[1][0] in GIFTED:
            used[event[0]] += 1
    return None


def misfit_word(record, made, used, touch):
    """What is wrong with a touch behind those made, its hand having used so many gifts."""
    event = touch[0]
    if event[1] >= record[0][event[0]]:
        return "upto"
    if touch[1][0] in GIFTED and not is_next_gift(record[1][event[0]], used, touch[1][2]):
        return "gift"
    if any([first not in made for first, second in record[2] if second == event]):
        return "edge"
    return None


def is_next_gift(gifts, used, gift):
    return used < len(gifts) and (gifts[used] is None or gifts[used] == gift)


def is_at_end(stand, touches, record):
    """Whether touches that fit a record have come to its end."""
    # No hand of a run that fits is beyond its upto or its gifts, so the sums tell of each.
    asked = [event for event, look in touches if look[0] in GIFTED]
    all_made = len(touches) == sum(record[0]) - sum(stand[COUNTS])
    return all_made and len(asked) == sum([len(gifts) for gifts in record[1]])
