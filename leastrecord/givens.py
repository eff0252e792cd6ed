"""The faults of a paper's claims: what is given to each touch, and what it needs."""

from leastrecord.aheads import Growth, brought_by
from leastrecord.needs import needs_among
from leastrecord.opens import unled
from leastrecord.orders import claims_in, places_in, touches_in
from leastrecord.runs import counts_behind, entry_of
from leastrecord.stands import COUNTS


def given_to(program, stand, record, paper, hand, number):
    event = (hand, number)
    ahead = paper[0][:places_in(stand, paper[0])[event]]
    growth = Growth(stand[COUNTS], counts_behind(stand, ahead), claims_in(stand, paper))
    growth.reach(hand, number)
    for first, second in record[2]:
        if second == event:
            growth.take_in(first)
    grow_by_claims(program, stand, touches_in(stand, paper), (event, entry_of(stand, paper[1], event)), growth)
    return tuple(growth.numbers)


def grow_by_claims(program, stand, touches, touch, growth):
    """Till no touch that is in, by its claim or otherwise, brings one more."""
    before = []
    while before != growth.numbers:
        before = list(growth.numbers)
        # Whoever wrote the claims: those of a hand's earlier touches may have what a later one's lacks.
        inside = [event for event, look in touches if growth.has(event)]
        for event in inside + brought_by(program, stand, touches, touch, growth):
            growth.take_in(event)


def ahead_fault(program, stand, record, paper):
    claims = claims_in(stand, paper)
    # By hand, then by number.
    for event in claims:
        given = given_to(program, stand, record, paper, event[0], event[1])
        if any([number > most for number, most in zip(claims[event], given)]):
            return event
    return None


def need_fault(program, stand, paper):
    pairs = unled(stand, paper[2], needs_among(touches_in(stand, paper)))
    return min([other for one, other in pairs], default=None)
