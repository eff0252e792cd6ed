"""Programs: which things are some, their names and their rows."""

from leastrecord.plain import is_between, is_tuple_of, is_value
from leastrecord.sums import is_sum
from leastrecord.words import ROW_PARTS, SORTS, is_name

MOST_OF_A_SORT = 4
MOST_ROWS = 30
LEAST_CHANCES = 2
MOST_CHANCES = 1000


def is_program(thing):
    if not is_tuple_of(thing, len(SORTS)) or not all([is_few(part) for part in thing]):
        return False
    if not all([is_box(one) for one in thing[0]]):
        return False
    if not all([is_name(one) for one in thing[1] + thing[2] + thing[3]]):
        return False
    if len(thing[4]) == 0 or not all([is_hand(one) for one in thing[4]]):
        return False
    return has_unlike_names(thing) and all([are_rows(thing, hand[1]) for hand in thing[4]])


def is_few(thing):
    return isinstance(thing, tuple) and len(thing) <= MOST_OF_A_SORT


def is_box(thing):
    return is_tuple_of(thing, 2) and is_name(thing[0]) and is_value(thing[1])


def is_hand(thing):
    """A hand as far as it can be told without the program; its rows can't."""
    if not is_tuple_of(thing, 2) or not is_name(thing[0]):
        return False
    return isinstance(thing[1], tuple) and len(thing[1]) <= MOST_ROWS


def has_unlike_names(program):
    names = []
    for sort in SORTS:
        names.extend(names_of(program, sort))
    return len(set(names)) == len(names)


def are_rows(program, rows):
    return all([is_row(program, row, len(rows)) for row in rows])


def is_row(program, row, many):
    if not isinstance(row, tuple) or len(row) == 0 or not isinstance(row[0], str):
        return False
    if row[0] not in ROW_PARTS or len(row) != len(ROW_PARTS[row[0]]) + 1:
        return False
    return all([is_part(program, part, thing, many) for part, thing in zip(ROW_PARTS[row[0]], row[1:])])


def is_part(program, part, thing, many):
    """Whether a thing can stand in a row of a hand with so many rows."""
    if part == "pocket":
        return is_name(thing)
    if part == "sum":
        return is_sum(thing)
    if part == "target":
        return is_between(thing, 0, many)
    if part == "chances":
        return is_between(thing, LEAST_CHANCES, MOST_CHANCES)
    return thing in names_of(program, part)


def names_of(program, sort):
    ones = program[SORTS.index(sort)]
    if sort == "box" or sort == "hand":
        return [one[0] for one in ones]
    return list(ones)


def number_of(program, sort, name):
    names = names_of(program, sort)
    return names.index(name) if name in names else None


def rows_of(program, hand):
    return program[4][hand][1]
