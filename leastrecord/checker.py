"""The small checker: a paper is let by, or refused with its first fault."""

from leastrecord.errors import NoPaper
from leastrecord.givens import ahead_fault, need_fault
from leastrecord.markfaults import edge_fault, mark_fault
from leastrecord.papers import is_paper
from leastrecord.rowfaults import gift_fault, row_fault

# Behind the shape; each is looked at only where those ahead of it have no fault.
WORDS = ("row", "gift", "mark", "edge", "ahead", "need")


def lets(program, stand, record, paper):
    if not is_paper(program, stand, record, paper):
        raise NoPaper("shape", -1, -1)
    for word in WORDS:
        fault = fault_by(word, program, stand, record, paper)
        if fault is not None:
            raise NoPaper(word, fault[0], fault[1])
    return True


def fault_by(word, program, stand, record, paper):
    if word == "row":
        return row_fault(program, stand, paper)
    if word == "gift":
        return gift_fault(stand, record, paper)
    if word == "mark":
        return mark_fault(program, stand, paper)
    if word == "edge":
        return edge_fault(stand, record, paper)
    if word == "ahead":
        return ahead_fault(program, stand, record, paper)
    return need_fault(program, stand, paper)
