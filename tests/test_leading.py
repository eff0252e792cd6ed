import itertools
import random
import unittest

from helper import (CLOCK, FETCH, GET, LOOP, PUT, SAY, SEND, TAKE, busy_scene, odd_things, program_of, random_record, run_of,
                    same_kind, stand_behind, stays)
from leastrecord.errors import NoBack, NoGo
from leastrecord.fitting import keeps, misfit
from leastrecord.leading import Lead
from leastrecord.least import least_record
from leastrecord.recordtexts import read_record, record_lines
from leastrecord.records import whole_record
from leastrecord.runs import parted, tables_of, walked
from leastrecord.seats import touch_of
from leastrecord.stands import first_stand, waits
from leastrecord.steps import gone

LOT = ("lot", "x", 6)
HEAR = ("hear", "x", "d")


def lead_by(program, steps, record):
    """A lead from the stand behind these steps."""
    return Lead(program, stand_behind(program, *steps), record)


def word_by_the_words(program, begin, record, run, hand):
    """(word, what) of a hand that can't be led on behind a run, else the gift of its next touch."""
    here = walked(program, begin, tuple(run))[0]
    event = (hand, here[0][hand])
    if event[1] >= record[0][hand]:
        return ("upto", None)
    wait = waits(program, here)[hand]
    if wait is not None:
        return (wait, None) if wait == "end" else wait[:2]
    missing = sorted(a for a, b in record[2] if b == event and a[1] >= here[0][a[0]])
    if missing:
        return ("edge", missing[0])
    touch = touch_of(program, hand, here[1][hand])
    if touch[0] not in ("clock", "lot", "hear"):
        return None
    used = sum(1 for maker, gift in run if maker == hand and gift is not None)
    if used == len(record[1][hand]):
        return ("gift", None)
    gift = record[1][hand][used]
    if gift is None:
        return ("kept", None)
    if touch[0] == "lot" and gift >= touch[2]:
        return ("gift", None)
    return gift


def can_by_the_words(program, begin, record, run):
    return [hand for hand in range(len(begin[0])) if not isinstance(word_by_the_words(program, begin, record, run, hand), tuple)]


class Leads(unittest.TestCase):
    def state(self, lead):
        return (lead.can(), lead.made(), lead.trail(), lead.waiting(), lead.stand_now(), lead.run_now())

    def refusal(self, lead, error, ask, *things):
        """The error with which something is refused; all stays as it was."""
        before = self.state(lead)
        with self.assertRaises(error) as caught:
            stays(self, ask, *things)
        self.assertIs(type(caught.exception), error)
        same_kind(self, self.state(lead), before)
        return caught.exception

    def no_go(self, lead, hand, word):
        same_kind(self, self.refusal(lead, NoGo, lead.go, hand).word, word)

    def no_back(self, lead, ask, *things):
        self.refusal(lead, NoBack, ask, *things)

    def agrees(self, program, begin, record, lead, run):
        """The lead is behind just this run, and tells who can be led and who waits."""
        same_kind(self, lead.run_now(), tuple(run))
        same_kind(self, lead.made(), len(run))
        same_kind(self, lead.stand_now(), walked(program, begin, tuple(run))[0])
        same_kind(self, lead.can(), can_by_the_words(program, begin, record, run))
        waiting = []
        for hand in range(len(begin[0])):
            told = word_by_the_words(program, begin, record, run, hand)
            if isinstance(told, tuple) and told[0] != "upto":
                waiting.append((hand,) + told)
        same_kind(self, lead.waiting(), waiting)


class OneTouch(Leads):
    def test_at_first(self):
        program = program_of((PUT,), (GET,))
        stand = first_stand(program)
        lead = stays(self, Lead, program, stand, ((1, 1), ((), ()), (((0, 0), (1, 0)),)))
        same_kind(self, self.state(lead), ([0], 0, 0, [(1, "edge", (0, 0))], stand, ()))

    def test_a_hand_is_led(self):
        program = program_of((PUT,), (GET,))
        lead = lead_by(program, (), ((1, 1), ((), ()), (((0, 0), (1, 0)),)))
        same_kind(self, lead.go(0), ("put", "b", 1, None))
        same_kind(self, self.state(lead), ([1], 1, 1, [], stand_behind(program, 0), run_of(0)))
        same_kind(self, lead.go(1), ("get", "b", 1, (0, 0)))
        same_kind(self, self.state(lead), ([], 2, 2, [], stand_behind(program, 0, 1), run_of(0, 1)))

    def test_what_is_no_hands_number(self):
        program = program_of((PUT, LOOP), (GET,))
        lead = lead_by(program, (), ((9, 1), ((), ()), ()))
        for hand in odd_things() + [2, -1, True, False, "0", None, (0,), [1], 10 ** 39]:
            if type(hand) is not int or hand not in (0, 1):
                self.no_go(lead, hand, "hand")
        lead = lead_by(program_of(()), (), ((0,), ((),), ()))
        self.no_go(lead, 1, "hand")
        self.no_go(lead, -1, "hand")
        self.no_go(lead, False, "hand")

    def test_upto(self):
        program = program_of((PUT, LOOP), (TAKE, TAKE))
        lead = lead_by(program, (0,), ((2, 0), ((), ()), ()))
        self.no_go(lead, 1, "upto")
        lead.go(0)
        self.no_go(lead, 0, "upto")
        same_kind(self, self.state(lead)[3], [])

    def test_end_lock_and_letter(self):
        program = program_of((TAKE, PUT), (TAKE,), (FETCH,), (PUT,))
        lead = lead_by(program, (0, 3), ((9, 9, 9, 9), ((), (), (), ()), ()))
        self.no_go(lead, 1, "lock")
        self.no_go(lead, 2, "letter")
        self.no_go(lead, 3, "end")
        same_kind(self, lead.waiting(), [(1, "lock", "l"), (2, "letter", "n"), (3, "end", None)])
        lead.go(0)
        self.no_go(lead, 0, "end")
        same_kind(self, lead.waiting(), [(0, "end", None), (1, "lock", "l"), (2, "letter", "n"), (3, "end", None)])

    def test_locks_and_lanes_by_their_names(self):
        program = program_of((("take", "m"), SAY), (("take", "m"),), (("fetch", "x", "o"),))
        lead = lead_by(program, (0,), ((2, 1, 1), ((), (), ()), ()))
        same_kind(self, lead.waiting(), [(1, "lock", "m"), (2, "letter", "o")])

    def test_edges(self):
        program = program_of((SAY, LOOP), (SAY, LOOP), (SAY, LOOP))
        edges = (((0, 1), (2, 0)), ((1, 0), (2, 0)), ((1, 1), (0, 1)))
        lead = lead_by(program, (), ((2, 2, 1), ((), (), ()), edges))
        self.no_go(lead, 2, "edge")
        same_kind(self, lead.waiting(), [(2, "edge", (0, 1))])
        lead.go(0)
        same_kind(self, lead.waiting(), [(0, "edge", (1, 1)), (2, "edge", (0, 1))])
        lead.go(1)
        same_kind(self, lead.waiting(), [(0, "edge", (1, 1)), (2, "edge", (0, 1))])
        lead.go(1)
        same_kind(self, lead.waiting(), [(2, "edge", (0, 1))])
        lead.go(0)
        same_kind(self, (lead.waiting(), lead.can()), ([], [2]))

    def test_of_several_edges_the_first_event(self):
        program = program_of((SAY, LOOP), (SAY, LOOP), (SAY, LOOP))
        edges = (((0, 0), (1, 0)), ((0, 3), (1, 0)), ((2, 0), (1, 0)), ((2, 4), (1, 0)))
        lead = lead_by(program, (), ((4, 1, 5), ((), (), ()), edges))
        told = []
        for hand in (2, 0, 0, 0, 0, 2, 2, 2, 2):
            told.append(lead.waiting())
            lead.go(hand)
        same_kind(self, told, [[(1, "edge", (0, 0))]] * 2 + [[(1, "edge", (0, 3))]] * 3 + [[(1, "edge", (2, 4))]] * 4)
        same_kind(self, lead.can(), [1])

    def test_gifts(self):
        for row, gift in ((CLOCK, 999), (CLOCK, 0), (HEAR, 7), (LOT, 5), (LOT, 0)):
            program = program_of((row, LOOP))
            lead = lead_by(program, (), ((2,), ((gift,),), ()))
            same_kind(self, lead.go(0)[2:], (gift, None))
            self.no_go(lead, 0, "gift")
            same_kind(self, lead.waiting(), [(0, "gift", None)])
            lead = lead_by(program, (), ((2,), ((None, gift),), ()))
            self.no_go(lead, 0, "kept")
            same_kind(self, lead.waiting(), [(0, "kept", None)])
            lead = lead_by(program, (), ((2,), ((),), ()))
            self.no_go(lead, 0, "gift")
        lead = lead_by(program_of((LOT, LOOP)), (), ((2,), ((5, 6),), ()))
        lead.go(0)
        self.no_go(lead, 0, "gift")
        lead = lead_by(program_of((("lot", "x", 1000), LOOP)), (), ((2,), ((999,),), ()))
        same_kind(self, lead.go(0), ("lot", "", 999, None))

    def test_the_next_of_its_own_gifts(self):
        program = program_of((CLOCK, SAY, CLOCK), (CLOCK, CLOCK))
        lead = lead_by(program, (), ((3, 2), ((3, 4), (5, 6)), ()))
        told = [lead.go(hand)[2] for hand in (0, 1, 0, 1, 0)]
        same_kind(self, told, [3, 5, 1, 6, 4])
        same_kind(self, lead.run_now(), run_of((0, 3), (1, 5), 0, (1, 6), (0, 4)))

    def test_gifts_from_a_stand_by_the_way(self):
        program = program_of((CLOCK, LOOP))
        lead = lead_by(program, ((0, 8), (0, 9)), ((4,), ((0, 2),), ()))
        same_kind(self, [lead.go(0), lead.go(0)], [("clock", "", 0, None), ("clock", "", 2, None)])

    def test_a_gift_that_nobody_asks_for(self):
        program = program_of((SAY, SAY))
        lead = lead_by(program, (), ((2,), ((None, 3),), ()))
        same_kind(self, lead.led([]), [("say", "d", 1, 0), ("say", "d", 1, 1)])

    def test_the_first_word_in_the_order(self):
        rows = (CLOCK, TAKE, FETCH)
        program = program_of(rows, (TAKE, SAY, ("lot", "x", 2)), (SAY,))
        # upto ahead of end, lock, letter, edge, gift
        lead = lead_by(program, (1, 2), ((0, 1, 1), ((), (), ()), ()))
        for hand in (0, 1, 2):
            self.no_go(lead, hand, "upto")
        # lock ahead of edge
        lead = lead_by(program, (1, (0, 5)), ((2, 2, 1), ((), (), ()), (((1, 1), (0, 1)), ((2, 0), (1, 1)))))
        self.no_go(lead, 0, "lock")
        # letter ahead of edge
        program = program_of((FETCH,), (SEND, CLOCK), ())
        lead = lead_by(program, (), ((1, 1, 0), ((), (), ()), (((1, 0), (0, 0)),)))
        self.no_go(lead, 0, "letter")
        same_kind(self, lead.waiting(), [(0, "letter", "n")])
        # end ahead of edge
        lead = lead_by(program, (), ((1, 1, 1), ((), (), ()), (((1, 0), (2, 0)),)))
        self.no_go(lead, 2, "end")
        # edge ahead of kept and gift
        program = program_of((CLOCK, LOOP), (SAY,))
        for gifts, word in (((None,), "kept"), ((), "gift")):
            lead = lead_by(program, (), ((1, 1), (gifts, ()), (((1, 0), (0, 0)),)))
            self.no_go(lead, 0, "edge")
            lead.go(1)
            self.no_go(lead, 0, word)

    def test_edges_that_wait_for_one_another(self):
        program = program_of((SAY,), (SAY,))
        lead = lead_by(program, (), ((1, 1), ((), ()), (((0, 0), (1, 0)), ((1, 0), (0, 0)))))
        same_kind(self, lead.led([1, 2]), [])
        same_kind(self, lead.waiting(), [(0, "edge", (1, 0)), (1, "edge", (0, 0))])


class BackAndOn(Leads):
    program = program_of((PUT, CLOCK, SEND, TAKE), (GET, FETCH, SAY))
    record = ((4, 3), ((7,), ()), ())

    def lead(self):
        return Lead(self.program, first_stand(self.program), self.record)

    def test_nothing_to_take_back_or_make_again(self):
        lead = self.lead()
        self.no_back(lead, lead.back)
        self.no_back(lead, lead.on)
        lead.go(0)
        self.no_back(lead, lead.on)
        lead.back()
        self.no_back(lead, lead.back)

    def test_taken_back_and_made_again(self):
        lead = self.lead()
        states = [self.state(lead)]
        looks = []
        for hand in (0, 1, 0, 0, 1, 0, 1):
            looks.append(lead.go(hand))
            states.append(self.state(lead))
        for place in (6, 5, 4, 3, 2, 1, 0):
            same_kind(self, lead.back(), looks[place])
            same_kind(self, (lead.made(), lead.trail()), (place, 7))
            self.assertEqual((lead.can(), lead.waiting(), lead.stand_now(), lead.run_now()), (states[place][0],) + states[place][3:])
        self.no_back(lead, lead.back)
        for place in range(7):
            same_kind(self, lead.on(), looks[place])
            self.assertEqual((lead.can(), lead.waiting(), lead.stand_now(), lead.run_now()), (states[place + 1][0],) + states[place + 1][3:])
        self.no_back(lead, lead.on)
        same_kind(self, self.state(lead), states[7])

    def test_going_to_places(self):
        lead = self.lead()
        runs = [lead.run_now()]
        for hand in (0, 1, 0, 0, 1):
            lead.go(hand)
            runs.append(lead.run_now())
        for place in (0, 5, 3, 3, 1, 4, 2, 5, 0):
            self.assertIsNone(lead.to(place))
            same_kind(self, (lead.made(), lead.trail(), lead.run_now()), (place, 5, runs[place]))
            same_kind(self, lead.stand_now(), walked(self.program, first_stand(self.program), runs[place])[0])
            for other in (-1, 6, -5, 7, 10 ** 39, -10 ** 39):
                self.no_back(lead, lead.to, other)

    def test_what_was_taken_back_is_forgotten_behind_a_touch_led(self):
        lead = self.lead()
        for hand in (0, 1, 0, 0):
            lead.go(hand)
        lead.to(1)
        same_kind(self, lead.trail(), 4)
        same_kind(self, lead.go(0), ("clock", "", 7, None))
        same_kind(self, (lead.made(), lead.trail(), lead.run_now()), (2, 2, run_of(0, (0, 7))))
        self.no_back(lead, lead.on)
        self.no_back(lead, lead.to, 3)

    def test_even_by_the_same_touch(self):
        lead = self.lead()
        for hand in (0, 1, 0):
            lead.go(hand)
        lead.to(1)
        lead.go(1)
        same_kind(self, (lead.made(), lead.trail()), (2, 2))

    def test_it_stays_where_the_touch_is_refused(self):
        lead = self.lead()
        for hand in (0, 1, 0):
            lead.go(hand)
        lead.to(2)
        self.no_go(lead, 1, "letter")
        self.no_go(lead, None, "hand")
        same_kind(self, lead.trail(), 3)
        same_kind(self, lead.on(), ("clock", "", 7, None))

    def test_gifts_are_used_by_the_touches_made_alone(self):
        program = program_of((CLOCK, LOOP), (CLOCK, LOOP))
        lead = lead_by(program, (), ((2, 2), ((3, 4), (5, 6)), ()))
        lead.go(0)
        lead.go(0)
        lead.to(0)
        same_kind(self, [lead.go(hand)[2] for hand in (1, 0)], [5, 3])
        lead.back()
        lead.back()
        same_kind(self, [lead.go(hand)[2] for hand in (0, 0, 1)], [3, 4, 5])


class ByPicks(Leads):
    def test_the_place_in_the_list_of_those_that_can_be_led(self):
        program = program_of((SAY, SAY), (SAY, SAY), (SAY, SAY))
        record = ((2, 2, 2), ((), (), ()), ())
        for picks, hands in (([], [0, 0, 1, 1, 2, 2]), ([1, 1], [1, 1, 0, 0, 2, 2]), ([2, 2, 1, 1], [2, 2, 1, 1, 0, 0]),
                             ([3, 4, 5], [0, 1, 2, 0, 1, 2]), ([-1, -1, -1, -1], [2, 2, 1, 1, 0, 0]), ([-3, -2], [0, 1, 0, 1, 2, 2]),
                             ([10 ** 39 + 1, -10 ** 39], [2, 2, 0, 0, 1, 1]), ([0] * 90, [0, 0, 1, 1, 2, 2])):
            lead = lead_by(program, (), record)
            looks = stays(self, lead.led, picks)
            same_kind(self, looks, [("say", "d", 1, number) for number in range(6)])
            self.assertEqual([hand for hand, gift in lead.run_now()], hands, picks)

    def test_picks_count_from_where_it_begins(self):
        program = program_of((SAY, SAY), (SAY, SAY))
        lead = lead_by(program, (), ((2, 2), ((), ()), ()))
        lead.go(1)
        same_kind(self, len(lead.led([1, 0])), 3)
        same_kind(self, lead.run_now(), run_of(1, 1, 0, 0))

    def test_till_no_hand_can_be_led(self):
        program = program_of((SAY, TAKE, SAY), (TAKE, TAKE, SAY))
        lead = lead_by(program, (), ((3, 1), ((), ()), ()))
        same_kind(self, [look[0] for look in lead.led([1, 0])], ["take", "say"])
        same_kind(self, lead.waiting(), [(0, "lock", "l")])

    def test_what_was_taken_back(self):
        program = program_of((SAY, SAY), (SAY, SAY))
        lead = lead_by(program, (), ((2, 1), ((), ()), ()))
        lead.led([])
        lead.to(1)
        same_kind(self, lead.trail(), 3)
        lead.led([1])
        same_kind(self, (lead.made(), lead.trail(), lead.run_now()), (3, 3, run_of(0, 1, 0)))

    def test_where_none_is_led_it_stays(self):
        program = program_of((CLOCK, SAY), (FETCH,))
        lead = lead_by(program, (), ((2, 1), ((5,), ()), ()))
        lead.led([])
        lead.back()
        # Here one is led, though the same one.
        same_kind(self, lead.led([4]), [("say", "d", 1, 0)])
        same_kind(self, (lead.made(), lead.trail()), (2, 2))
        same_kind(self, lead.led([1, 2, 3]), [])
        same_kind(self, (lead.made(), lead.trail()), (2, 2))

    def test_what_was_taken_back_can_be_led_again(self):
        chance = random.Random(120)
        for turn in range(40):
            program, stand, run = busy_scene(chance, most_steps=10)
            record = random_record(chance, program, stand, run, whole_record(program, stand, run))
            lead = Lead(program, stand, record)
            lead.led([chance.randrange(-5, 5) for pick in range(10)])
            for place, step in enumerate(lead.run_now()):
                lead.to(place)
                self.assertIn(step[0], lead.can())

    def test_by_a_record_that_is_enough_the_run_comes(self):
        chance = random.Random(121)
        for turn in range(60):
            program, stand, run = busy_scene(chance)
            record = chance.choice([least_record, whole_record])(program, stand, run)
            for picks in ([], [chance.randrange(-10 ** 6, 10 ** 6) for pick in range(60)], [1] * 60, [3, 2, 1] * 20):
                lead = Lead(program, stand, record)
                looks = stays(self, lead.led, picks)
                told = lead.run_now()
                self.assertEqual(looks, [look for hand, look in walked(program, stand, told)[1]])
                self.assertIs(keeps(program, stand, told, record), True)
                self.assertEqual(tables_of(program, stand, told), tables_of(program, stand, run))
                same_kind(self, (lead.stand_now(), lead.waiting()), (walked(program, stand, run)[0], []))

    def test_by_any_record_it_goes_as_far_as_it_lets(self):
        chance = random.Random(122)
        met = []
        for turn in range(200):
            program, stand, run = busy_scene(chance, most_steps=20)
            upto, gifts, edges = random_record(chance, program, stand, run, whole_record(program, stand, run))
            events = [(hand, k) for hand in range(len(upto)) for k in range(stand[0][hand], upto[hand] + 2)]
            more = [(a, b) for a, b in itertools.product(events, events) if a[0] != b[0]]
            record = (tuple(most + chance.choice([0, 0, 1, 2]) for most in upto),
                      tuple(hand[:chance.randrange(len(hand) + 1)] + chance.choice([(), (None,), (3,)]) for hand in gifts),
                      tuple(sorted(set(edges) | set(chance.sample(more, min(len(more), chance.choice([0, 0, 1, 3])))))))
            record = record[:2] + (tuple(edge for edge in record[2] if all(k < record[0][hand] for hand, k in edge)),)
            lead = Lead(program, stand, record)
            lead.led([chance.randrange(4) for pick in range(30)])
            self.agrees(program, stand, record, lead, lead.run_now())
            self.assertIsNone(misfit(program, stand, lead.run_now(), record))
            met.extend(word for hand, word, what in lead.waiting())
        for word in ("end", "lock", "letter", "edge", "kept", "gift"):
            self.assertGreater(met.count(word), 5, word)


class AnyDeeds(Leads):
    def test_any_deeds(self):
        chance = random.Random(123)
        for turn in range(80):
            program, stand, run = busy_scene(chance, most_steps=16)
            record = random_record(chance, program, stand, run, whole_record(program, stand, run))
            lead = stays(self, Lead, program, stand, record)
            trail, place = [], 0
            for deed in range(25):
                here = [step for step, look in trail[:place]]
                how = chance.choice(["go", "go", "go", "go", "back", "on", "to", "led"] if turn % 2 else ["go", "go", "go", "back", "on", "to"])
                if how == "go":
                    hand = chance.randrange(len(stand[0]))
                    told = word_by_the_words(program, stand, record, here, hand)
                    if isinstance(told, tuple):
                        self.no_go(lead, hand, told[0])
                    else:
                        look = gone(program, lead.stand_now(), hand, told)[1]
                        same_kind(self, lead.go(hand), look)
                        trail, place = trail[:place] + [((hand, told), look)], place + 1
                elif how == "back" and place:
                    place -= 1
                    same_kind(self, lead.back(), trail[place][1])
                elif how == "on" and place < len(trail):
                    place += 1
                    same_kind(self, lead.on(), trail[place - 1][1])
                elif how in ("back", "on"):
                    self.no_back(lead, lead.back if how == "back" else lead.on)
                elif how == "to":
                    many = chance.randrange(-1, len(trail) + 2)
                    if 0 <= many <= len(trail):
                        self.assertIsNone(lead.to(many))
                        place = many
                    else:
                        self.no_back(lead, lead.to, many)
                else:
                    picks = [chance.randrange(-9, 9) for pick in range(chance.randrange(6))]
                    looks, count = [], 0
                    free = can_by_the_words(program, stand, record, here)
                    while free:
                        hand = free[(picks[count] if count < len(picks) else 0) % len(free)]
                        gift = word_by_the_words(program, stand, record, here, hand)
                        looks.append(gone(program, walked(program, stand, tuple(here))[0], hand, gift)[1])
                        here.append((hand, gift))
                        count += 1
                        free = can_by_the_words(program, stand, record, here)
                    same_kind(self, stays(self, lead.led, picks), looks)
                    if looks:
                        made = [step for step, look in trail[:place]]
                        trail = trail[:place] + list(zip(here[len(made):], looks))
                        place = len(trail)
                same_kind(self, lead.trail(), len(trail))
                self.agrees(program, stand, record, lead, [step for step, look in trail[:place]])


class OneBesideAnother(Leads):
    def test_two_leads(self):
        program = program_of((PUT, CLOCK), (GET, CLOCK))
        stand = first_stand(program)
        record = ((2, 2), ((5,), (6,)), ())
        one = Lead(program, stand, record)
        other = Lead(program, stand, record)
        one.go(0)
        one.go(0)
        other.go(1)
        one.back()
        same_kind(self, (one.run_now(), one.trail()), (run_of(0), 2))
        same_kind(self, (other.run_now(), other.trail()), (run_of(1), 1))
        same_kind(self, other.led([]), [("put", "b", 1, None), ("clock", "", 5, None), ("clock", "", 6, None)])
        same_kind(self, one.on(), ("clock", "", 5, None))

    def test_what_the_owner_changes_later(self):
        lines = ["upto 2 2", "gifts 5", "gifts 6", "edge 0 0 1 0"]
        program = program_of((PUT, CLOCK), (GET, CLOCK))
        things = [program, first_stand(program), read_record(lines)]
        lead = Lead(*things)
        lines.clear()
        record_lines(things[2]).clear()
        things[1] = gone(things[0], things[1], 0, None)[0]
        things[2] = ((0, 0), ((), ()), ())
        same_kind(self, (lead.can(), lead.stand_now()), ([0], first_stand(program)))
        same_kind(self, [look[2] for look in lead.led([])], [1, 5, 1, 6])

    def test_what_is_told_is_the_askers_own(self):
        program = program_of((PUT, CLOCK), (GET, CLOCK), (TAKE,), (FETCH,))
        lead = lead_by(program, (), ((2, 2, 0, 1), ((5,), (6,), (), ()), ()))
        picks = [1, 1]
        for told in (lead.can(), lead.waiting(), lead.led(picks)):
            told.append(None)
            told.reverse()
        picks.clear()
        same_kind(self, (lead.can(), lead.waiting(), len(lead.run_now())), ([], [(3, "letter", "n")], 4))

    def test_the_runs_that_come_part_from_none(self):
        chance = random.Random(124)
        for turn in range(30):
            program, stand, run = busy_scene(chance, most_steps=12)
            record = least_record(program, stand, run)
            lead = Lead(program, stand, record)
            for turn_about in range(6):
                lead.to(chance.randrange(lead.trail() + 1))
                lead.led([chance.randrange(9) for pick in range(12)])
                self.assertIsNone(parted(program, stand, run, lead.run_now()))
                for place in range(lead.trail() + 1):
                    lead.to(place)
                    self.assertIsNone(parted(program, stand, run, lead.run_now()))
                    self.assertIsNone(misfit(program, stand, lead.run_now(), record))


if __name__ == "__main__":
    unittest.main()
