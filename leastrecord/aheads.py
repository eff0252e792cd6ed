"""What is ahead of each event in a run that fits a record."""

from leastrecord.fitting import fitted
from leastrecord.needs import free_from
from leastrecord.runs import entry_of
from leastrecord.stands import COUNTS, hands_of, state_of


class Growth:
    """How many touches of each hand are ahead of one event, as far as it is known; none above its bound."""

    def __init__(self, counts, bounds, claims):
        self.numbers = list(counts)
        self.bounds = bounds
        self.claims = claims

    def has(self, event):
        return event[1] < self.numbers[event[0]]

    def reach(self, hand, number):
        """At least that number, as far as the bound lets."""
        self.numbers[hand] = max(self.numbers[hand], min(self.bounds[hand], number))

    def take_in(self, event):
        """The event, and what by its claim is ahead of it."""
        self.reach(event[0], event[1] + 1)
        if self.has(event):
            for hand, number in enumerate(self.claims[event]):
                self.reach(hand, number)


def aheads(program, stand, run, record):
    return aheads_among(program, stand, fitted(program, stand, run, record), record[2])


def aheads_among(program, stand, touches, edges):
    """Aheads of touches, (EVENT, LOOK) in the order of a run that fits these edges."""
    firsts = firsts_by_second(edges)
    claims = {}
    made = list(stand[COUNTS])
    # What is ahead of an event stands ahead of it in the run, so its claim is there by then.
    for touch in touches:
        growth = Growth(stand[COUNTS], made, claims)
        grow(program, stand, touches, firsts.get(touch[0], []), touch, growth)
        claims[touch[0]] = tuple(growth.numbers)
        made[touch[0][0]] += 1
    return tuple([claims_of(touches, claims, hand) for hand in hands_of(program)])


def firsts_by_second(edges):
    """The first events of the edges, by their second ones."""
    firsts = {}
    for first, second in edges:
        firsts.setdefault(second, []).append(first)
    return firsts


def claims_of(touches, claims, hand):
    return tuple([claims[event] for event, look in touches if event[0] == hand])


def grow(program, stand, touches, firsts, touch, growth):
    """Till all that belongs ahead of the touch is in; each one more may bring others."""
    event = touch[0]
    coming = [(event[0], event[1] - 1)] + firsts
    while coming != []:
        for one in coming:
            if not growth.has(one):
                growth.take_in(one)
        brought = brought_by(program, stand, touches, touch, growth)
        coming = [one for one in brought if not growth.has(one)]


def brought_by(program, stand, touches, touch, growth):
    """The sends or frees that belong ahead of a touch by what is ahead of it so far."""
    if touch[1][0] == "fetch":
        return sends_brought(program, stand, touches, touch[1][1], growth)
    if touch[1][0] == "take":
        return frees_brought(program, stand, touches, touch, growth)
    return []


def sends_brought(program, stand, touches, lane, growth):
    fetches = [event for event, look in touches if look[0] == "fetch" and look[1] == lane]
    fetched = state_of(program, stand, "lane", lane)[1] + len([event for event in fetches if growth.has(event)])
    sends = [touch for touch in touches if touch[1][0] == "send" and touch[1][1] == lane]
    return [event for event, look in sends if look[3] <= fetched]


def frees_brought(program, stand, touches, touch, growth):
    lock = touch[1][1]
    hand = touch[0][0]
    takes = [event for event, look in touches if look[0] == "take" and look[1] == lock]
    others = [event for event in takes if event[0] != hand and growth.has(event)]
    frees = [free_from(touches, event[0], lock, event[1]) for event in others]
    holder = state_of(program, stand, "lock", lock)[0]
    if holder is not None and holder != hand:
        frees.append(free_from(touches, holder, lock, stand[COUNTS][holder]))
    return [free for free in frees if free is not None]


def is_ahead(stand, told, one, other):
    return one[1] < entry_of(stand, told, other)[one[0]]
