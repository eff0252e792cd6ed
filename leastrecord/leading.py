"""Leads: a run led again by a record, forwards, back and on again."""

from leastrecord.errors import NoBack, NoGo
from leastrecord.plain import is_between
from leastrecord.seats import touch_of
from leastrecord.stands import COUNTS, SEATS, hands_of, wait_of
from leastrecord.steps import GIFTED, gone, takes_gift


class Lead:
    """A trail of touches, those made and behind them those taken back."""

    def __init__(self, program, stand, record):
        self.program = program
        self.begin = stand
        self.record = record
        # Each touch as (step, look, the stand behind it); the place is how many of them are made.
        self.touches = []
        self.place = 0

    def can(self):
        return [hand for hand in hands_of(self.program) if self.hindrance(hand) is None]

    def go(self, hand):
        if not is_between(hand, 0, len(self.program[4]) - 1):
            raise NoGo("hand")
        why = self.hindrance(hand)
        if why is not None:
            raise NoGo(why[0])
        gift = self.gift_for(hand)
        told = gone(self.program, self.stand_now(), hand, gift)
        self.touches = self.touches[:self.place] + [((hand, gift), told[1], told[0])]
        self.place += 1
        return told[1]

    def back(self):
        if self.place == 0:
            raise NoBack("no touch is made")
        self.place -= 1
        return self.touches[self.place][1]

    def on(self):
        if self.place == len(self.touches):
            raise NoBack("no touch was taken back")
        self.place += 1
        return self.touches[self.place - 1][1]

    def to(self, many):
        if not 0 <= many <= len(self.touches):
            raise NoBack("no such place in the trail")
        self.place = many

    def made(self):
        return self.place

    def trail(self):
        return len(self.touches)

    def led(self, picks):
        looks = []
        free = self.can()
        while free != []:
            pick = picks[len(looks)] if len(looks) < len(picks) else 0
            looks.append(self.go(free[pick % len(free)]))
            free = self.can()
        return looks

    def waiting(self):
        told = []
        for hand in hands_of(self.program):
            why = self.hindrance(hand)
            if why is not None and why[0] != "upto":
                told.append((hand, why[0], why[1]))
        return told

    def stand_now(self):
        return self.begin if self.place == 0 else self.touches[self.place - 1][2]

    def run_now(self):
        return tuple([step for step, look, stand in self.touches[:self.place]])

    def hindrance(self, hand):
        """Why a hand can't be led on, as (word, what), None where it can."""
        stand = self.stand_now()
        if stand[COUNTS][hand] >= self.record[0][hand]:
            return ("upto", None)
        wait = wait_of(self.program, stand, hand)
        if wait == "end":
            return ("end", None)
        if wait is not None:
            return (wait[0], wait[1])
        firsts = unmade_firsts(stand[COUNTS], self.record[2], hand)
        if firsts != []:
            return ("edge", min(firsts))
        word = gift_word(touch_of(self.program, hand, stand[SEATS][hand]), self.gifts_left(hand))
        return None if word is None else (word, None)

    def gifts_left(self, hand):
        """A hand's gifts that it hasn't used in the touches made."""
        used = [step for step in self.run_now() if step[0] == hand and step[1] is not None]
        return self.record[1][hand][len(used):]

    def gift_for(self, hand):
        """What comes to the next touch of a hand that can be led."""
        touch = touch_of(self.program, hand, self.stand_now()[SEATS][hand])
        return self.gifts_left(hand)[0] if touch[0] in GIFTED else None


def unmade_firsts(counts, edges, hand):
    """The events that the hand's next one has to wait for by the edges, of those that aren't made."""
    event = (hand, counts[hand])
    return [first for first, second in edges if second == event and first[1] >= counts[first[0]]]


def gift_word(touch, gifts):
    """What is wrong with the gifts that are left, for a touch, None where it can be made."""
    if touch[0] not in GIFTED:
        return None
    if len(gifts) == 0:
        return "gift"
    if gifts[0] is None:
        return "kept"
    return None if takes_gift(touch, gifts[0]) else "gift"
