"""Two pieces of a run, joined."""

from leastrecord.cuts import unopened
from leastrecord.runs import walked
from leastrecord.stands import COUNTS


def joined(program, stand, one, other):
    unopened(program, stand, one[0], one[1])
    middle = walked(program, stand, one[0])[0]
    unopened(program, middle, other[0], other[1])
    upto = other[1][0]
    gifts = [first + second for first, second in zip(one[1][1], other[1][1])]
    edges = list(one[1][2]) + list(other[1][2]) + edges_between(stand[COUNTS], middle[COUNTS], upto)
    return (one[0] + other[0], (upto, tuple(gifts), tuple(sorted(edges))))


def edges_between(counts, middle, upto):
    """From each hand's last touch ahead of the middle to each other hand's first one behind it."""
    lasts = [(hand, many - 1) for hand, many in enumerate(middle) if many > counts[hand]]
    firsts = [(hand, many) for hand, many in enumerate(middle) if many < upto[hand]]
    edges = []
    for last in lasts:
        edges.extend([(last, first) for first in firsts if first[0] != last[0]])
    return edges
