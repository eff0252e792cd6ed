"""A hand alone: its seats, its touches, and the looks that its rows give."""

from leastrecord.plain import is_tuple_of, is_value, is_whole
from leastrecord.programs import rows_of
from leastrecord.sums import worth
from leastrecord.words import ROW_PARTS

MOST_OWN_ROWS = 200
MOST_TOUCHES = 60

# The touches that lay what comes into a pocket, their row's first part.
POCKETING = ("get", "fetch", "clock", "lot", "hear")


def first_seat(program, hand):
    return rested(program, hand, (0, (), ()))


def rested(program, hand, seat):
    rows = rows_of(program, hand)
    here = seat
    for turn in range(MOST_OWN_ROWS):
        if is_rested(rows, here):
            return here
        here = behind_own_row(rows[here[0]], here)
    if is_rested(rows, here):
        return here
    return (len(rows), here[1], here[2])


def is_rested(rows, seat):
    return seat[0] == len(rows) or not is_own_row(rows[seat[0]], seat[2])


def is_own_row(row, held):
    if row[0] == "take":
        return row[1] in held
    if row[0] == "free":
        return row[1] not in held
    return row[0] == "let" or row[0] == "leap"


def behind_own_row(row, seat):
    onward = seat[0] + 1
    if row[0] == "let":
        return (onward, laid(seat[1], row[1], worth(row[2], seat[1])), seat[2])
    if row[0] == "leap" and worth(row[2], seat[1]) != 0:
        return (row[1], seat[1], seat[2])
    return (onward, seat[1], seat[2])


def laid(pockets, name, value):
    """The pockets with this value in that one; one that holds 0 isn't there."""
    others = [pocket for pocket in pockets if pocket[0] != name]
    if value != 0:
        others.append((name, value))
    return tuple(sorted(others))


def touch_of(program, hand, seat):
    rows = rows_of(program, hand)
    if seat[0] == len(rows):
        return None
    row = rows[seat[0]]
    thing = ""
    value = None
    for part, entry in zip(ROW_PARTS[row[0]], row[1:]):
        if part == "sum":
            value = worth(entry, seat[1])
        elif part == "chances":
            value = entry
        elif part != "pocket":
            thing = entry
    return (row[0], thing, value)


def seat_behind(program, hand, seat, value):
    row = rows_of(program, hand)[seat[0]]
    pockets = seat[1]
    held = seat[2]
    if row[0] in POCKETING:
        pockets = laid(pockets, row[1], value)
    elif row[0] == "take":
        held = tuple(sorted(held + (row[1],)))
    elif row[0] == "free":
        held = tuple([lock for lock in held if lock != row[1]])
    return rested(program, hand, (seat[0] + 1, pockets, held))


def course(program, hand, seat, values):
    here = seat
    touches = []
    used = 0
    while len(touches) < MOST_TOUCHES:
        touch = touch_of(program, hand, here)
        if touch is None:
            break
        value = touch[2]
        if touch[0] in POCKETING:
            if used == len(values):
                break
            value = values[used]
            used += 1
        touches.append((touch[0], touch[1], value))
        here = seat_behind(program, hand, here, value)
    return (tuple(touches), here)


def goes_so(program, hand, seat, things):
    here = seat
    for many, thing in enumerate(things):
        touch = touch_of(program, hand, here)
        if touch is None or not gives_look(touch, thing):
            return many
        here = seat_behind(program, hand, here, thing[2])
    return len(things)


def gives_look(touch, thing):
    """Whether a thing is a look of this touch, whatever its mark is."""
    if not is_tuple_of(thing, 4) or thing[0] != touch[0] or thing[1] != touch[1]:
        return False
    if touch[0] in POCKETING:
        return may_come(touch, thing[2])
    if touch[2] is None:
        return thing[2] is None
    return is_whole(thing[2]) and thing[2] == touch[2]


def may_come(touch, value):
    """Whether a value can come to a touch that lays it into a pocket."""
    return is_value(value) and (touch[0] != "lot" or value < touch[2])
