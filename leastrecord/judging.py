"""A run and a record judged: a paper that is let by, or a run that parts."""

from leastrecord.errors import NoParts, NoRun
from leastrecord.fitting import kept, misfit
from leastrecord.papers import paper_of
from leastrecord.partings import parting
from leastrecord.runs import parted


def judged(program, stand, run, record):
    other = parting(program, stand, run, record)
    if other is None:
        return ("paper", paper_of(program, stand, run, record))
    return ("parts", other)


def lets_parts(program, stand, run, record, thing):
    kept(program, stand, run, record)
    try:
        fault = misfit(program, stand, thing, record)
    except NoRun as refusal:
        raise NoParts("run") from refusal
    if fault is not None:
        raise NoParts("fit")
    if parted(program, stand, run, thing) is None:
        raise NoParts("alike")
    return True
