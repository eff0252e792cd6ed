import random
import unittest

from helper import (CLOCK, FETCH, FREE, GET, LOOP, PUT, SAY, SEND, TAKE, bent_at_any_place, bent_claims, busy_scene, claim_of, events_in,
                    given_by_the_words, kinds, lessened_claims, marks_by_the_words, needs_by_the_words, odd_things, other_order, program_of,
                    random_record, refused, run_by, run_of, search, stand_behind, stays, touches_by_order, with_claim, with_look)
from leastrecord.checker import lets
from leastrecord.errors import NoPaper
from leastrecord.fitting import keeps
from leastrecord.least import least_record
from leastrecord.opens import is_enough
from leastrecord.papers import paper_of
from leastrecord.partings import parting
from leastrecord.records import whole_record
from leastrecord.runs import parted, tables_of, walked
from leastrecord.seats import seat_behind, touch_of
from leastrecord.stands import first_stand

# One hand puts, sends and asks for a gift; the other one fetches, gets and says.
PROGRAM = program_of((PUT, CLOCK, SEND, TAKE, FREE, SAY), (FETCH, GET, TAKE, FREE, SAY, CLOCK))
FIRST = first_stand(PROGRAM)
RUN = run_of(0, (0, 7), 0, 0, 1, 0, 1, 0, 1, 1, 1, (1, 8))
RECORD = ((6, 6), ((7,), (8,)), (((0, 3), (1, 2)), ((0, 5), (1, 4))))
GOOD = paper_of(PROGRAM, FIRST, RUN, RECORD)


def has_shape(stand, record, paper):
    """Whether a thing has the right shape of a paper."""
    def whole(thing):
        return type(thing) is int

    owed = [most - count for most, count in zip(record[0], stand[0])]
    if type(paper) is not tuple or len(paper) != 3 or any(type(part) is not tuple for part in paper):
        return False
    order, tables, claims = paper
    if not all(whole(hand) and 0 <= hand < len(owed) for hand in order) or [order.count(hand) for hand in range(len(owed))] != owed:
        return False
    for part in (tables, claims):
        if any(type(one) is not tuple for one in part) or [len(one) for one in part] != owed:
            return False
    return all(type(claim) is tuple and len(claim) == len(owed) and all(whole(number) and number >= 0 for number in claim)
               for part in claims for claim in part)


def rows_by_the_words(program, stand, paper):
    """Of each hand the first event whose thing is no look that its rows give."""
    faults = []
    for hand, looks in enumerate(paper[1]):
        seat = stand[1][hand]
        for number, look in enumerate(looks, start=stand[0][hand]):
            touch = touch_of(program, hand, seat)
            is_right = touch is not None and type(look) is tuple and len(look) == 4 and kinds(look[:2]) == kinds(touch[:2])
            if is_right and touch[0] in ("get", "fetch", "clock", "hear", "lot"):
                is_right = type(look[2]) is int and 0 <= look[2] < (touch[2] if touch[0] == "lot" else 1000)
            elif is_right:
                is_right = kinds(look[2]) == kinds(touch[2])
            if not is_right:
                faults.append((hand, number))
                break
            seat = seat_behind(program, hand, seat, look[2])
    return faults


def gifts_by_the_words(stand, record, paper):
    faults = []
    for hand, looks in enumerate(paper[1]):
        asked = [(number, look[2]) for number, look in enumerate(looks, start=stand[0][hand]) if look[0] in ("clock", "lot", "hear")]
        gifts = record[1][hand]
        wrong = [number for place, (number, value) in enumerate(asked) if gifts[place:place + 1] != (value,)]
        if wrong:
            faults.append((hand, wrong[0]))
        elif len(gifts) > len(asked):
            faults.append((hand, record[0][hand]))
    return faults


def first_fault(program, stand, record, paper):
    """The first word that has a fault, with it, as the words tell it."""
    if not has_shape(stand, record, paper):
        return ("shape", -1, -1)

    def edges():
        events = events_in(stand, paper[0])
        return [second for first, second in record[2] if events.index(first) > events.index(second)]

    def claimed():
        return [event for event in events_in(stand, paper[0])
                if any(number > most for number, most in zip(claim_of(stand, paper, event), given_by_the_words(program, stand, record, paper, event)))]

    def needed():
        return [b for a, b in needs_by_the_words(touches_by_order(stand, paper)) if claim_of(stand, paper, b)[a[0]] <= a[1]]

    asks = (("row", lambda: rows_by_the_words(program, stand, paper)), ("gift", lambda: gifts_by_the_words(stand, record, paper)),
            ("mark", lambda: marks_by_the_words(program, stand, paper)), ("edge", edges), ("ahead", claimed), ("need", needed))
    for word, ask in asks:
        faults = ask()
        if faults:
            return (word,) + min(faults)
    return None


class Checker(unittest.TestCase):
    def let(self, program, stand, record, paper):
        self.assertIs(stays(self, lets, program, stand, record, paper), True)

    def fault(self, paper, told, record=RECORD, program=PROGRAM, stand=FIRST):
        refused(self, NoPaper, told, lets, program, stand, record, paper)

    def is_sound(self, program, stand, record, paper):
        """A paper that is let by tells a run that keeps the record, and all that fit it are alike and come to one end."""
        run = run_by(paper)
        self.assertIs(keeps(program, stand, run, record), True)
        self.assertEqual(kinds(tables_of(program, stand, run)), kinds(paper[1]))
        other, ends = search(program, stand, run, record)
        self.assertIsNone(other)
        self.assertEqual(ends, [walked(program, stand, run)[0]])


class LetBy(Checker):
    def test_an_ordinary_paper(self):
        self.let(PROGRAM, FIRST, RECORD, GOOD)

    def test_no_touches(self):
        self.let(PROGRAM, FIRST, ((0, 0), ((), ()), ()), ((), ((), ()), ((), ())))

    def test_papers_of_whole_and_least_records(self):
        chance = random.Random(60)
        for turn in range(60):
            program, stand, run = busy_scene(chance)
            for record in (whole_record(program, stand, run), least_record(program, stand, run)):
                self.let(program, stand, record, paper_of(program, stand, run, record))

    def test_papers_are_let_by_just_where_the_record_is_enough(self):
        chance = random.Random(61)
        answers = []
        for turn in range(250):
            program, stand, run = busy_scene(chance, most_steps=25)
            record = random_record(chance, program, stand, run, whole_record(program, stand, run))
            paper = paper_of(program, stand, run, record)
            if is_enough(program, stand, run, record):
                answers.append(None)
                self.let(program, stand, record, paper)
            else:
                answers.append(first_fault(program, stand, record, paper)[0])
                self.fault(paper, first_fault(program, stand, record, paper), record, program, stand)
        # Its run's own looks, marks and aheads are right: only a gift or a need can be open.
        self.assertEqual(set(answers), {None, "gift", "need"})
        self.assertGreater(min(answers.count(word) for word in (None, "gift", "need")), 20)

    def test_other_orders_of_the_same_touches(self):
        chance = random.Random(62)
        met = 0
        for turn in range(80):
            program, stand, run = busy_scene(chance, most_steps=20)
            record = least_record(program, stand, run)
            paper = paper_of(program, stand, run, record)
            other = other_order(chance, program, stand, record, paper)
            met += other != paper
            self.let(program, stand, record, other)
        self.assertGreater(met, 40)

    def test_lesser_claims(self):
        # Numbers of a hand's own, and such as nobody needs, may be lower.
        own = tuple(tuple(tuple(0 if one == hand else number for one, number in enumerate(claim)) for claim in part)
                    for hand, part in enumerate(GOOD[2]))
        self.let(PROGRAM, FIRST, RECORD, GOOD[:2] + (own,))
        self.let(PROGRAM, FIRST, RECORD, with_claim(FIRST, GOOD, (1, 5), (0, 0)))
        chance = random.Random(63)
        met = 0
        for turn in range(200):
            program, stand, run = busy_scene(chance, most_steps=14)
            record = least_record(program, stand, run)
            good = paper_of(program, stand, run, record)
            paper = lessened_claims(chance, good)
            told = first_fault(program, stand, record, paper)
            if told is None:
                met += paper != good
                self.let(program, stand, record, paper)
            else:
                self.fault(paper, told, record, program, stand)
        self.assertGreater(met, 30)

    def test_all_that_fit_a_record_with_a_paper_that_is_let_by_are_alike(self):
        chance = random.Random(64)
        for turn in range(120):
            program, stand, run = busy_scene(chance, most_rows=6, most_steps=12, most_hands=3)
            record = least_record(program, stand, run)
            good = paper_of(program, stand, run, record)
            for paper in (good, other_order(chance, program, stand, record, good), lessened_claims(chance, good)):
                if first_fault(program, stand, record, paper) is None:
                    self.let(program, stand, record, paper)
                    self.is_sound(program, stand, record, paper)

    def test_whoever_wrote_it(self):
        chance = random.Random(65)
        answers = []
        for turn in range(600):
            program, stand, run = busy_scene(chance, most_rows=5, most_steps=9, most_hands=3)
            record = random_record(chance, program, stand, run, whole_record(program, stand, run))
            full = whole_record(program, stand, run)
            # What a fuller record gives is claimed by one that leaves more out.
            claims = paper_of(program, stand, run, chance.choice([full, record]))
            paper = bent_claims(chance, claims, 3) if chance.random() < 0.7 else claims
            try:
                self.assertIs(lets(program, stand, record, paper), True)
            except NoPaper as refusal:
                answers.append(refusal.word)
                self.assertEqual((refusal.word, refusal.hand, refusal.number), first_fault(program, stand, record, paper))
            else:
                answers.append(None)
                self.is_sound(program, stand, record, paper)
        for word in (None, "gift", "ahead", "need"):
            self.assertGreater(answers.count(word), 15, word)

    def test_sixty_touches(self):
        program = program_of(*[(TAKE, GET, PUT, FREE, SAY, LOOP)] * 4)
        stand = first_stand(program)
        run = run_of(*[hand for turn in range(3) for hand in range(4) for row in range(5)])
        record = least_record(program, stand, run)
        self.let(program, stand, record, paper_of(program, stand, run, record))


class Refused(Checker):
    def test_the_shape(self):
        for thing in odd_things() + [list(GOOD), GOOD[:2], GOOD + ((),), (list(GOOD[0]),) + GOOD[1:], (GOOD[0], list(GOOD[1]), GOOD[2]),
                                     (GOOD[0], GOOD[1], list(GOOD[2])), (GOOD[0][1:],) + GOOD[1:], ((False,) + GOOD[0][1:],) + GOOD[1:]]:
            self.fault(thing, ("shape", -1, -1))
        self.fault(with_claim(FIRST, GOOD, (1, 0), (True, 0)), ("shape", -1, -1))
        self.fault(with_claim(FIRST, GOOD, (1, 0), (0, -1)), ("shape", -1, -1))
        self.fault(with_claim(FIRST, GOOD, (1, 0), [3, 0]), ("shape", -1, -1))
        self.fault(GOOD, ("shape", -1, -1), ((6, 5),) + RECORD[1:])
        self.fault(GOOD, ("shape", -1, -1), RECORD, PROGRAM, stand_behind(PROGRAM, 0))

    def test_a_row(self):
        for event, look in (((0, 0), ("put", "b", 2, None)), ((0, 0), ("put", "c", 1, None)), ((0, 1), ("clock", "", 1000, None)),
                            ((0, 3), ("take", "m", None, None)), ((1, 1), ("get", "b", True, (0, 0))), ((1, 4), ("say", "d", 5, 1)),
                            ((1, 5), None), ((1, 5), [])):
            self.fault(with_look(FIRST, GOOD, event, look), ("row",) + event)

    def test_a_gift(self):
        self.fault(with_look(FIRST, GOOD, (0, 1), ("clock", "", 6, None)), ("gift", 0, 1))
        self.fault(with_look(FIRST, GOOD, (1, 5), ("clock", "", 7, None)), ("gift", 1, 5))
        self.fault(GOOD, ("gift", 0, 1), (RECORD[0], ((None,), (8,)), RECORD[2]))
        self.fault(GOOD, ("gift", 1, 5), (RECORD[0], ((7,), ()), RECORD[2]))
        self.fault(GOOD, ("gift", 1, 6), (RECORD[0], ((7,), (8, 9)), RECORD[2]))
        self.fault(GOOD, ("gift", 0, 6), (RECORD[0], ((7, None), (8, 9)), RECORD[2]))

    def test_a_mark(self):
        self.fault(with_look(FIRST, GOOD, (1, 1), ("get", "b", 1, None)), ("mark", 1, 1))
        self.fault(with_look(FIRST, GOOD, (1, 1), ("get", "b", 1, [0, 0])), ("mark", 1, 1))
        self.fault(with_look(FIRST, GOOD, (1, 4), ("say", "d", 1, True)), ("mark", 1, 4))
        self.fault(with_look(FIRST, GOOD, (0, 1), ("clock", "", 7, 0)), ("mark", 0, 1))
        self.fault(((1,) + (0,) * 6 + (1,) * 5,) + GOOD[1:], ("mark", 1, 0))

    def test_an_edge(self):
        self.fault(GOOD, ("edge", 0, 2), RECORD[:2] + (RECORD[2] + (((1, 0), (0, 2)),),))
        self.fault(GOOD, ("edge", 0, 1), RECORD[:2] + ((((0, 3), (1, 0)), ((0, 5), (1, 0)), ((1, 5), (0, 1)), ((1, 5), (0, 5))),))
        self.fault(GOOD, ("edge", 1, 0), RECORD[:2] + ((((0, 3), (1, 1)), ((0, 5), (1, 0)), ((0, 5), (1, 2))),))

    def test_a_claim_above_what_is_given(self):
        for event, claim in (((0, 0), (1, 0)), ((0, 2), (2, 1)), ((1, 0), (4, 0)), ((1, 0), (10 ** 39, 0)), ((1, 5), (6, 6))):
            self.fault(with_claim(FIRST, GOOD, event, claim), ("ahead",) + event)

    def test_a_need_that_is_not_claimed(self):
        self.fault(with_claim(FIRST, with_claim(FIRST, GOOD, (1, 4), (5, 0)), (1, 5), (0, 0)), ("need", 1, 4))
        none = (((0, 0),) * 6, ((0, 0),) * 6)
        self.fault(GOOD[:2] + (none,), ("need", 1, 1))
        self.fault(paper_of(PROGRAM, FIRST, RUN, RECORD[:2] + ((),)), ("need", 1, 2), RECORD[:2] + ((),))

    def test_faults_by_several_words_in_their_order(self):
        # From the last word to the first one, each fault put onto those that were there.
        record = RECORD
        paper = with_claim(FIRST, with_claim(FIRST, GOOD, (1, 4), (0, 0)), (1, 5), (0, 0))
        self.fault(paper, ("need", 1, 4))
        paper = with_claim(FIRST, paper, (1, 5), (9, 9))
        self.fault(paper, ("ahead", 1, 5))
        record = RECORD[:2] + (RECORD[2] + (((1, 5), (0, 2)),),)
        self.fault(paper, ("edge", 0, 2), record)
        paper = with_look(FIRST, paper, (1, 4), ("say", "d", 1, 5))
        self.fault(paper, ("mark", 1, 4), record)
        record = (record[0], ((7,), (9,)), record[2])
        self.fault(paper, ("gift", 1, 5), record)
        paper = with_look(FIRST, paper, (1, 4), ("say", "d", 2, 5))
        self.fault(paper, ("row", 1, 4), record)
        self.fault((paper[0], paper[1], paper[2][:1]), ("shape", -1, -1), record)

    def test_of_several_faults_of_one_word_the_least_hands_least_number(self):
        paper = GOOD
        for event in ((1, 5), (1, 2), (0, 5), (0, 3)):
            paper = with_look(FIRST, paper, event, None)
            self.fault(paper, ("row",) + event)
        paper = GOOD
        for event in ((1, 4), (1, 1), (0, 5), (0, 0)):
            look = GOOD[1][event[0]][event[1]]
            paper = with_look(FIRST, paper, event, look[:3] + ("",))
            self.fault(paper, ("mark",) + event)
        paper = GOOD
        for event in ((1, 5), (1, 0), (0, 4), (0, 0)):
            paper = with_claim(FIRST, paper, event, (9, 9))
            self.fault(paper, ("ahead",) + event)

    def test_numbers_from_the_stands_counts_on(self):
        program = program_of((PUT, LOOP), (GET, LOOP))
        stand = stand_behind(program, 0, 0, 1)
        run = run_of(0, 1, 1)
        record = whole_record(program, stand, run)
        paper = paper_of(program, stand, run, record)
        self.let(program, stand, record, paper)
        self.fault(with_look(stand, paper, (1, 2), ("get", "b", 2, (0, 2))), ("mark", 1, 2), record, program, stand)
        self.fault(with_look(stand, paper, (1, 2), None), ("row", 1, 2), record, program, stand)
        self.fault(with_claim(stand, paper, (1, 1), (4, 1)), ("ahead", 1, 1), record, program, stand)
        self.fault(paper_of(program, stand, run, record[:2] + ((),)), ("need", 1, 1), record[:2] + ((),), program, stand)

    def test_papers_bent_at_any_place(self):
        chance = random.Random(66)
        words = []
        for turn in range(1500):
            program, stand, run = busy_scene(chance, most_rows=8, most_steps=8, most_hands=3)
            record = least_record(program, stand, run)
            good = paper_of(program, stand, run, record)
            paper = bent_at_any_place(chance, good, odd_things())
            if chance.random() < 0.3:
                paper = bent_at_any_place(chance, paper, odd_things())
            told = first_fault(program, stand, record, paper)
            words.append(told and told[0])
            if told is None:
                self.let(program, stand, record, paper)
                self.is_sound(program, stand, record, paper)
            else:
                self.fault(paper, told, record, program, stand)
        for word in (None, "shape", "row", "mark", "ahead"):
            self.assertGreater(words.count(word), 5, (word, words.count(word)))

    def test_papers_bent_in_several_ways(self):
        chance = random.Random(68)
        words = []
        for turn in range(1200):
            program, stand, run = busy_scene(chance, most_steps=12)
            record = whole_record(program, stand, run)
            if chance.random() < 0.4:
                record = record[:2] + (tuple(edge for edge in record[2] if chance.random() < 0.7),)
            paper = paper_of(program, stand, run, record)
            ways = ["neighbours", "order", "claims", "gift", "edge", "look"]
            for how in sorted(chance.sample(ways, chance.randrange(1, 4)), key=ways.index):
                paper, record = self.bent_by(chance, how, program, stand, record, paper)
            told = first_fault(program, stand, record, paper)
            words.append(told and told[0])
            if told is None:
                self.let(program, stand, record, paper)
            else:
                self.fault(paper, told, record, program, stand)
        for word in (None, "shape", "row", "gift", "mark", "edge", "ahead", "need"):
            self.assertGreater(words.count(word), 8, (word, words.count(word)))

    def bent_by(self, chance, how, program, stand, record, paper):
        """A paper and a record, one of both bent."""
        events = events_in(stand, paper[0])
        if how == "claims":
            return bent_claims(chance, paper), record
        if how == "order":
            return (tuple(chance.sample(paper[0], len(paper[0]))),) + paper[1:], record
        if how == "neighbours":
            return other_order(chance, program, stand, record, paper), record
        if how == "look":
            return (paper[0], bent_at_any_place(chance, paper[1], odd_things()), paper[2]), record
        if how == "gift":
            return paper, (record[0], tuple(gifts[chance.randrange(2):] + ((5,) * chance.randrange(2)) for gifts in record[1]), record[2])
        pairs = [(a, b) for a in events for b in events if a[0] != b[0]]
        return paper, record[:2] + (tuple(sorted(set(record[2]) | set(chance.sample(pairs, min(1, len(pairs)))))),)

    def test_a_record_by_which_some_run_parts_has_no_paper(self):
        chance = random.Random(67)
        met = 0
        for turn in range(250):
            program, stand, run = busy_scene(chance, most_steps=12)
            record = random_record(chance, program, stand, run, whole_record(program, stand, run))
            other = parting(program, stand, run, record)
            if other is None:
                continue
            met += 1
            self.assertIsNotNone(parted(program, stand, run, other))
            for claims in (paper_of(program, stand, run, record), paper_of(program, stand, run, whole_record(program, stand, run))):
                with self.assertRaises(NoPaper):
                    lets(program, stand, record, bent_claims(chance, claims, 3))
                with self.assertRaises(NoPaper):
                    lets(program, stand, record, claims)
        self.assertGreater(met, 40)


class ByThings(Checker):
    """Each thing that can bring what a touch needs, with all kinds of touches."""

    def asked(self, rows, steps, edges, stand_steps=()):
        program = program_of(*rows)
        stand = stand_behind(program, *stand_steps)
        run = run_of(*steps)
        record = whole_record(program, stand, run)[:2] + (edges,)
        paper = paper_of(program, stand, run, record)
        self.let(program, stand, record, paper)
        self.is_sound(program, stand, record, paper)

    def test_letters(self):
        self.asked(((PUT, SEND), (FETCH, GET)), (0, 0, 1, 1), ())
        self.asked(((PUT, SEND), (FETCH, SEND), (FETCH, GET)), (0, 0, 1, 1, 2, 2), (((1, 0), (2, 0)),))

    def test_locks(self):
        self.asked(((TAKE, PUT, FREE), (TAKE, GET, FREE)), (0, 0, 0, 1, 1, 1), (((0, 0), (1, 0)),))
        self.asked(((TAKE, PUT, FREE), (TAKE, GET, FREE)), (0, 0, 1, 1, 1), (), (0,))
        self.asked(((TAKE, PUT, FREE), (TAKE, GET, FREE), (TAKE, GET)), (0, 0, 1, 1, 1, 2, 2), (((1, 0), (2, 0)),), (0,))

    def test_gifts_and_doors(self):
        self.asked(((CLOCK, SAY), (("lot", "x", 6), ("hear", "y", "d"), SAY)), ((0, 5), (1, 5), 0, (1, 999), 1), (((0, 1), (1, 2)),))

    def test_letters_that_wait_at_the_stand(self):
        self.asked(((SEND, PUT, SEND), (FETCH, FETCH, GET)), (0, 0, 1, 1, 1), (), (0,))


if __name__ == "__main__":
    unittest.main()
