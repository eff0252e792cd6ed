"""A paper's order: its touches one behind the other, and their places."""

from leastrecord.runs import entry_of, events_by
from leastrecord.stands import COUNTS


def touches_in(stand, paper):
    """The touches of a paper as (EVENT, what its tables have of it), by its order."""
    return [(event, entry_of(stand, paper[1], event)) for event in events_by(stand, paper[0])]


def claims_in(stand, paper):
    """The claims of a paper by their EVENTs, by hand, then by number."""
    claims = {}
    for hand, count in enumerate(stand[COUNTS]):
        for number, claim in enumerate(paper[2][hand], start=count):
            claims[(hand, number)] = claim
    return claims


def places_in(stand, order):
    """The places of the EVENTs in an order."""
    return dict([(event, place) for place, event in enumerate(events_by(stand, order))])
