import random
import unittest

from helper import (CLOCK, FETCH, FREE, GET, N1, PUT, SAY, SEND, TAKE, X, busy_scene, events_told, program_of,
                    random_record, refused, run_of, runs_refused, same_kind, stand_behind, stays)
from leastrecord.errors import NoRun
from leastrecord.fitting import keeps, misfit
from leastrecord.records import whole_record
from leastrecord.seats import touch_of
from leastrecord.stands import can_go, first_stand
from leastrecord.steps import gone

PROGRAM = program_of(
    (("clock", "x"), ("put", "b", X), ("leap", 0, N1)),
    (("get", "y", "b"), ("lot", "y", 6), ("hear", "y", "d"), ("leap", 0, N1)))
FIRST = first_stand(PROGRAM)
GIFTED = ("clock", "lot", "hear")


def misfit_by_the_words(program, stand, run, record):
    upto, gifts, edges = record
    made = []
    for place, (event, look) in enumerate(events_told(program, stand, run)):
        hand, k = event
        if not k < upto[hand]:
            return (place, "upto")
        if look[0] in GIFTED:
            left = gifts[hand][sum(1 for e, other in made if e[0] == hand and other[0] in GIFTED):]
            if not left or left[0] not in (None, look[2]):
                return (place, "gift")
        if not {first for first, second in edges if second == event} <= {e for e, other in made}:
            return (place, "edge")
        made.append((event, look))
    return None


def busy_way(chance, program, stand, run):
    """Another run of the program, with the gifts of this one mostly."""
    gifts = [[gift for one, gift in run if one == hand and gift is not None] for hand in range(len(program[4]))]
    steps = []
    for turn in range(len(run) + chance.choice([-1, 0, 0, 2])):
        free = can_go(program, stand)
        if not free:
            break
        hand = chance.choice(free)
        gift = None
        if touch_of(program, hand, stand[1][hand])[0] in GIFTED:
            gift = gifts[hand].pop(0) if gifts[hand] and chance.random() < 0.8 else chance.randrange(2)
        steps.append((hand, gift))
        stand = gone(program, stand, hand, gift)[0]
    return tuple(steps)


class Fitting(unittest.TestCase):
    def asked(self, steps, record, told, kept, program=PROGRAM, stand=FIRST):
        run = run_of(*steps)
        same_kind(self, stays(self, misfit, program, stand, run, record), told)
        self.assertIs(stays(self, keeps, program, stand, run, record), kept)

    def test_a_run_and_its_whole_record(self):
        record = ((2, 3), ((7,), (5, 9)), (((0, 1), (1, 0)),))
        steps = ((0, 7), 0, 1, (1, 5), (1, 9))
        self.asked(steps, record, None, True)
        for many in range(5):
            self.asked(steps[:many], record, None, False)

    def test_upto(self):
        record = ((2, 0), ((7, 7), ()), ())
        self.asked(((0, 7), 0), record, None, False)
        self.asked(((0, 7), 0, (0, 7)), record, (2, "upto"), False)
        self.asked((1, (0, 7)), record, (0, "upto"), False)
        self.asked(((0, 7), 1), record, (1, "upto"), False)

    def test_upto_at_the_stands_counts(self):
        stand = stand_behind(PROGRAM, (0, 7), 0, 1)
        self.asked((), ((2, 1), ((), ()), ()), None, True, stand=stand)
        self.asked(((0, 1),), ((2, 1), ((1,), ()), ()), (0, "upto"), False, stand=stand)
        self.asked(((0, 1),), ((3, 1), ((1,), ()), ()), None, True, stand=stand)
        self.asked(((0, 1), (1, 1)), ((3, 1), ((1,), (1,)), ()), (1, "upto"), False, stand=stand)

    def test_gifts_otherwise_used_up_and_none(self):
        self.asked(((0, 7), 0, (0, 8)), ((3, 0), ((7, 8), ()), ()), None, True)
        self.asked(((0, 7), 0, (0, 7)), ((3, 0), ((7, 8), ()), ()), (2, "gift"), False)
        self.asked(((0, 8), 0, (0, 7)), ((3, 0), ((7, 8), ()), ()), (0, "gift"), False)
        self.asked(((0, 7), 0, (0, 8)), ((3, 0), ((7,), ()), ()), (2, "gift"), False)
        self.asked(((0, 7),), ((3, 0), ((), (7,)), ()), (0, "gift"), False)
        for gift in (0, 1, 999):
            self.asked(((0, gift), 0, (0, 8)), ((3, 0), ((None, 8), ()), ()), None, True)
            self.asked(((0, 7), 0, (0, gift)), ((3, 0), ((7, None), ()), ()), None, True)

    def test_gifts_left_over(self):
        self.asked(((0, 7), 0), ((2, 0), ((7, 8), ()), ()), None, False)
        self.asked(((0, 7), 0), ((2, 0), ((7, None), ()), ()), None, False)
        self.asked(((0, 7), 0), ((2, 0), ((7,), (None,)), ()), None, False)
        self.asked(((0, 7), 0), ((2, 0), ((7,), ()), ()), None, True)

    def test_what_takes_no_gift_uses_none(self):
        program = program_of((GET, PUT, TAKE, FREE, SEND, FETCH, SAY, CLOCK))
        stand = first_stand(program)
        self.asked((0,) * 7 + ((0, 3),), ((8,), ((3,),), ()), None, True, program, stand)
        self.asked((0,) * 7, ((7,), ((),), ()), None, True, program, stand)
        self.asked((0,) * 7 + ((0, 3),), ((8,), ((),), ()), (7, "gift"), False, program, stand)

    def test_each_kind_that_takes_a_gift(self):
        for row in (("clock", "x"), ("lot", "x", 6), ("hear", "x", "d")):
            program = program_of((row,))
            stand = first_stand(program)
            self.asked(((0, 4),), ((1,), ((4,),), ()), None, True, program, stand)
            self.asked(((0, 4),), ((1,), ((None,),), ()), None, True, program, stand)
            self.asked(((0, 4),), ((1,), ((3,),), ()), (0, "gift"), False, program, stand)
            self.asked(((0, 4),), ((1,), ((),), ()), (0, "gift"), False, program, stand)

    def test_gifts_are_each_hands_own(self):
        program = program_of((("clock", "x"), ("clock", "x")), (("clock", "x"), ("clock", "x")))
        stand = first_stand(program)
        record = ((2, 2), ((1, 2), (3, 4)), ())
        self.asked(((0, 1), (1, 3), (1, 4), (0, 2)), record, None, True, program, stand)
        self.asked(((0, 1), (1, 2)), record, (1, "gift"), False, program, stand)
        self.asked(((1, 3), (0, 1), (0, 4)), record, (2, "gift"), False, program, stand)

    def test_gifts_ahead_of_the_stand_are_not_counted(self):
        stand = stand_behind(PROGRAM, (0, 7), 0)
        self.asked(((0, 8), 0), ((4, 0), ((8,), ()), ()), None, True, stand=stand)

    def test_edges(self):
        record = ((2, 3), ((7,), (5, 9)), (((0, 1), (1, 0)), ((1, 1), (0, 0))))
        self.asked((1,), record, (0, "edge"), False)
        self.asked(((0, 7),), record, (0, "edge"), False)
        record = ((2, 3), ((7,), (5, 9)), (((0, 0), (1, 2)), ((0, 1), (1, 2)), ((1, 0), (0, 1))))
        self.asked((1, (1, 5), (0, 7), 0, (1, 9)), record, None, True)
        self.asked((1, (1, 5), (0, 7), (1, 9)), record, (3, "edge"), False)
        self.asked((1, (1, 5), (1, 9)), record, (2, "edge"), False)
        self.asked(((0, 7), 0), record, (1, "edge"), False)
        self.asked(((0, 7), 1, 0, (1, 5), (1, 9)), record, None, True)

    def test_edges_from_a_stand_by_the_way(self):
        stand = stand_behind(PROGRAM, (0, 7), 0, 1)
        record = ((4, 2), ((8,), (5,)), (((1, 1), (0, 3)),))
        self.asked(((0, 8), (1, 5), 0), record, None, True, stand=stand)
        self.asked(((0, 8), 0), record, (1, "edge"), False, stand=stand)

    def test_the_first_word_that_is_due(self):
        edges = (((1, 0), (0, 0)),)
        self.asked(((0, 7),), ((0, 1), ((), ()), ()), (0, "upto"), False)
        self.asked(((0, 7),), ((1, 1), ((8,), ()), edges), (0, "gift"), False)
        self.asked(((0, 7),), ((1, 1), ((), ()), edges), (0, "gift"), False)
        self.asked(((0, 7),), ((1, 1), ((7,), ()), edges), (0, "edge"), False)
        self.asked(((0, 7),), ((1, 1), ((None,), ()), edges), (0, "edge"), False)
        self.asked((1, (0, 7)), ((1, 1), ((7,), ()), edges), None, True)

    def test_the_first_step_that_is_one(self):
        self.asked(((0, 7), 0, (0, 8), 0, (0, 9)), ((3, 0), ((7, 1), ()), ()), (2, "gift"), False)

    def test_what_is_no_run(self):
        program = program_of((("get", "x", "b"), ("leap", 0, N1)))
        for record in (((60,), ((),), ()), ((0,), ((),), ())):
            for ask in (misfit, keeps):
                for thing, told in runs_refused():
                    refused(self, NoRun, told, ask, program, first_stand(program), thing, record)
        self.asked((0,) * 60, ((60,), ((),), ()), None, True, program, first_stand(program))
        self.asked((0,) * 60, ((59,), ((),), ()), (59, "upto"), False, program, first_stand(program))

    def test_as_the_words_tell(self):
        chance = random.Random(30)
        words = []
        for turn in range(300):
            program, stand, run = busy_scene(chance)
            record = random_record(chance, program, stand, run, whole_record(program, stand, run))
            self.assertIsNone(misfit(program, stand, run, record))
            self.assertIs(keeps(program, stand, run, record), True)
            other = busy_way(chance, program, stand, run)
            told = stays(self, misfit, program, stand, other, record)
            same_kind(self, told, misfit_by_the_words(program, stand, other, record))
            words.append(told and told[1])
            counts = tuple(stand[0][hand] + sum(1 for step in other if step[0] == hand) for hand in range(len(program[4])))
            used = tuple(sum(1 for step in other if step[0] == hand and step[1] is not None) for hand in range(len(program[4])))
            kept = told is None and counts == record[0] and used == tuple(len(gifts) for gifts in record[1])
            self.assertIs(stays(self, keeps, program, stand, other, record), kept)
        for word in (None, "upto", "gift", "edge"):
            self.assertGreater(words.count(word), 5)


if __name__ == "__main__":
    unittest.main()
