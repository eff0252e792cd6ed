"""The faults of a paper's looks, each hand alone: its rows and its gifts."""

from leastrecord.seats import goes_so
from leastrecord.stands import COUNTS, SEATS
from leastrecord.steps import GIFTED


def row_fault(program, stand, paper):
    for hand, looks in enumerate(paper[1]):
        right = goes_so(program, hand, stand[SEATS][hand], looks)
        if right < len(looks):
            return (hand, stand[COUNTS][hand] + right)
    return None


def gift_fault(stand, record, paper):
    for hand, looks in enumerate(paper[1]):
        right = given_so(looks, record[1][hand])
        if right is not None:
            return (hand, stand[COUNTS][hand] + right)
    return None


def given_so(looks, gifts):
    """How many looks stand ahead of a hand's first fault; all of them where gifts are left, None where all is right."""
    used = 0
    for ahead, look in enumerate(looks):
        if look[0] in GIFTED:
            if used == len(gifts) or gifts[used] != look[2]:
                return ahead
            used += 1
    return None if used == len(gifts) else len(looks)
