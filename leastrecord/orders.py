"""A paper's order: its touches one behind the other, and their places."""

from leastrecord.runs import entry_of, events_by


def touches_in(stand, paper):
    """The touches of a paper as (EVENT, what its tables have of it), by its order."""
    return [(event, entry_of(stand, paper[1], event)) for event in events_by(stand, paper[0])]


def places_in(stand, order):
    """The places of the EVENTs in an order."""
    return dict([(event, place) for place, event in enumerate(events_by(stand, order))])
