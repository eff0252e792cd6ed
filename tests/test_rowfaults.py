import random
import unittest

from helper import (CLOCK, FETCH, FREE, GET, LOOP, N1, PUT, SAY, SEND, TAKE, X, busy_scene, odd_things, program_of,
                    random_record, run_of, same_kind, stand_behind, stays, with_look)
from leastrecord.papers import paper_of
from leastrecord.records import whole_record
from leastrecord.rowfaults import gift_fault, row_fault
from leastrecord.stands import first_stand

ROWS = (GET, ("put", "b", ("add", X, N1)), TAKE, FREE, SEND, FETCH, SAY, CLOCK, ("lot", "x", 6), ("hear", "x", "d"))
EACH = program_of(ROWS)
EACH_RUN = run_of(0, 0, 0, 0, 0, 0, 0, (0, 3), (0, 5), (0, 8))
TWO = program_of((CLOCK, ("put", "b", X), LOOP), (GET, ("hear", "y", "d"), LOOP))
TWO_RUN = run_of((0, 3), 1, 0, (1, 4), 1, (0, 5))


def paper(program, stand, run):
    return paper_of(program, stand, run, whole_record(program, stand, run))


class RowFault(unittest.TestCase):
    def asked(self, program, stand, thing, told):
        same_kind(self, stays(self, row_fault, program, stand, thing), told)

    def test_papers_of_runs_have_none(self):
        self.asked(EACH, first_stand(EACH), paper(EACH, first_stand(EACH), EACH_RUN), None)
        self.asked(TWO, first_stand(TWO), paper(TWO, first_stand(TWO), TWO_RUN), None)
        self.asked(TWO, first_stand(TWO), paper(TWO, first_stand(TWO), ()), None)
        chance = random.Random(17)
        for turn in range(80):
            program, stand, run = busy_scene(chance)
            self.asked(program, stand, paper(program, stand, run), None)

    def test_a_kind_or_a_thing_otherwise(self):
        stand = first_stand(EACH)
        good = paper(EACH, stand, EACH_RUN)
        for k, look in enumerate(good[1][0]):
            for kind in ("get", "put", "take", "free", "send", "fetch", "say", "clock", "lot", "hear", "let", "", None, 0, [], ("get",)):
                if kind != look[0]:
                    self.asked(EACH, stand, with_look(stand, good, (0, k), (kind,) + look[1:]), (0, k))
            for thing in ("b", "c", "l", "m", "n", "o", "d", "e", "", "x", None, 0, [], ("b",)):
                if thing != look[1]:
                    self.asked(EACH, stand, with_look(stand, good, (0, k), (look[0], thing) + look[2:]), (0, k))

    def test_a_value_otherwise(self):
        stand = first_stand(EACH)
        good = paper(EACH, stand, EACH_RUN)
        for k, look in enumerate(good[1][0]):
            most = {"get": 999, "fetch": 999, "clock": 999, "hear": 999, "lot": 5}.get(look[0])
            for value in odd_things() + [2, 6, 7, 998]:
                told = None
                if most is None:
                    told = None if type(value) is type(look[2]) and value == look[2] else (0, k)
                elif type(value) is not int or not 0 <= value <= most:
                    told = (0, k)
                elif look[0] == "get" and value != 5:
                    # The put behind it tells another sum then.
                    told = (0, 1)
                self.asked(EACH, stand, with_look(stand, good, (0, k), look[:2] + (value, look[3])), told)

    def test_true_for_1_and_false_for_0(self):
        program = program_of((("put", "b", ("num", 1)), ("put", "c", ("num", 0)), CLOCK))
        stand = first_stand(program)
        good = paper(program, stand, run_of(0, 0, (0, 1)))
        self.asked(program, stand, good, None)
        self.asked(program, stand, with_look(stand, good, (0, 0), ("put", "b", True, None)), (0, 0))
        self.asked(program, stand, with_look(stand, good, (0, 1), ("put", "c", False, None)), (0, 1))
        self.asked(program, stand, with_look(stand, good, (0, 2), ("clock", "", True, None)), (0, 2))

    def test_marks_are_not_looked_at(self):
        stand = first_stand(EACH)
        good = paper(EACH, stand, EACH_RUN)
        for k, look in enumerate(good[1][0]):
            for mark in odd_things():
                self.asked(EACH, stand, with_look(stand, good, (0, k), look[:3] + (mark,)), None)

    def test_orders_and_claims_are_not_looked_at(self):
        stand = first_stand(TWO)
        order, tables, claims = paper(TWO, stand, TWO_RUN)
        self.asked(TWO, stand, (order[::-1], tables, tuple(tuple((9, 9) for claim in hand) for hand in claims)), None)

    def test_things_that_are_no_looks(self):
        stand = first_stand(EACH)
        good = paper(EACH, stand, EACH_RUN)
        for k, look in enumerate(good[1][0]):
            for thing in odd_things() + [list(look), look[:3], look + (None,), (look,), dict(enumerate(look))]:
                self.asked(EACH, stand, with_look(stand, good, (0, k), thing), (0, k))

    def test_looks_behind_the_end(self):
        program = program_of((PUT,), (GET, GET))
        stand = first_stand(program)
        put, get = ("put", "b", 1, None), ("get", "b", 1, (0, 0))
        self.asked(program, stand, ((0, 0, 1), ((put, put), (get,)), (((0, 0),) * 2, ((0, 0),))), (0, 1))
        self.asked(program, stand, ((0, 1, 1, 1), ((put,), (get, get, get)), (((0, 0),), ((0, 0),) * 3)), (1, 2))

    def test_of_several_the_least_hands_least_number(self):
        stand = first_stand(TWO)
        good = paper(TWO, stand, TWO_RUN)
        for events, told in ((((0, 1), (0, 2), (1, 0)), (0, 1)), (((1, 0), (0, 2)), (0, 2)), (((1, 2), (1, 1)), (1, 1)), (((1, 2),), (1, 2))):
            bent = good
            for event in events:
                bent = with_look(stand, bent, event, None)
            self.asked(TWO, stand, bent, told)

    def test_from_the_seats_of_a_stand_by_the_way(self):
        stand = stand_behind(TWO, (0, 3), 1)
        good = paper(TWO, stand, TWO_RUN[2:])
        self.asked(TWO, stand, good, None)
        self.asked(TWO, stand, with_look(stand, good, (0, 1), ("put", "b", 4, None)), (0, 1))
        self.asked(TWO, stand, with_look(stand, good, (0, 2), ("clock", "", 1000, None)), (0, 2))
        self.asked(TWO, stand, with_look(stand, good, (1, 2), ("get", "c", 3, None)), (1, 2))

    def test_a_lock_held_at_the_stand(self):
        program = program_of((TAKE, TAKE, FREE, FREE, SAY))
        stand = stand_behind(program, 0)
        good = paper(program, stand, run_of(0, 0))
        self.asked(program, stand, good, None)
        self.asked(program, stand, with_look(stand, good, (0, 1), ("take", "l", None, None)), (0, 1))
        self.asked(program, stand, with_look(stand, good, (0, 2), ("free", "l", None, None)), (0, 2))


class GiftFault(unittest.TestCase):
    def asked(self, program, run, gifts, told, stand=None):
        """The fault of the run's paper by the run's counts and these gifts."""
        stand = stand or first_stand(program)
        record = (whole_record(program, stand, run)[0], gifts, ())
        same_kind(self, stays(self, gift_fault, stand, record, paper(program, stand, run)), told)

    def test_the_gifts_of_the_run(self):
        self.asked(TWO, TWO_RUN, ((3, 5), (4,)), None)
        self.asked(EACH, EACH_RUN, ((3, 5, 8),), None)
        self.asked(TWO, (), ((), ()), None)

    def test_none_otherwise_and_used_up(self):
        for gifts, told in (((None, 5, 8), (0, 7)), ((3, None, 8), (0, 8)), ((3, 5, None), (0, 9)), ((4, 5, 8), (0, 7)), ((3, 4, 8), (0, 8)),
                            ((3, 5, 9), (0, 9)), ((), (0, 7)), ((3,), (0, 8)), ((3, 5), (0, 9)), ((5, 3, 8), (0, 7)), ((None, None, None), (0, 7))):
            self.asked(EACH, EACH_RUN, (gifts,), told)

    def test_left_over(self):
        self.asked(EACH, EACH_RUN, ((3, 5, 8, 0),), (0, 10))
        self.asked(EACH, EACH_RUN, ((3, 5, 8, None),), (0, 10))
        self.asked(EACH, EACH_RUN[:7], ((3,),), (0, 7))
        self.asked(TWO, TWO_RUN, ((3, 5), (4, 4)), (1, 3))
        self.asked(TWO, TWO_RUN, ((3, 5, 5), (4,)), (0, 3))
        self.asked(TWO, (), ((), (None,)), (1, 0))

    def test_of_several_the_least_hands_least_number(self):
        self.asked(TWO, TWO_RUN, ((3, 6), (None,)), (0, 2))
        self.asked(TWO, TWO_RUN, ((2, 6), ()), (0, 0))
        self.asked(TWO, TWO_RUN, ((3, 5), ()), (1, 1))
        self.asked(TWO, TWO_RUN, ((3, 5, 7), ()), (0, 3))
        self.asked(TWO, TWO_RUN, ((3, 6, 7), (4,)), (0, 2))

    def test_gifts_of_0_are_not_none(self):
        program = program_of((CLOCK, CLOCK))
        self.asked(program, run_of((0, 0), (0, 1)), ((0, 1),), None)
        self.asked(program, run_of((0, 0), (0, 1)), ((None, 1),), (0, 0))

    def test_from_a_stand_by_the_way(self):
        stand = stand_behind(TWO, (0, 3), 1)
        self.asked(TWO, TWO_RUN[2:], ((5,), (4,)), None, stand)
        self.asked(TWO, TWO_RUN[2:], ((6,), (4,)), (0, 2), stand)
        self.asked(TWO, TWO_RUN[2:], ((3, 5), (4,)), (0, 2), stand)
        self.asked(TWO, TWO_RUN[2:], ((5, 5), (4,)), (0, 3), stand)
        self.asked(TWO, TWO_RUN[2:], ((5,), (4, None)), (1, 3), stand)
        self.asked(TWO, TWO_RUN[2:], ((5,), ()), (1, 1), stand)

    def test_as_the_words_tell(self):
        chance = random.Random(41)
        answers = []
        for turn in range(200):
            program, stand, run = busy_scene(chance)
            whole = whole_record(program, stand, run)
            record = random_record(chance, program, stand, run, whole)
            gifts = [list(hand) for hand in record[1]]
            hand = chance.randrange(len(gifts))
            if chance.random() < 0.3:
                gifts[hand] = chance.choice([gifts[hand][:-1], gifts[hand] + [chance.choice([None, 0])], gifts[hand][::-1]])
            record = (record[0], tuple(tuple(hand) for hand in gifts), record[2])
            good = paper(program, stand, run)
            faults = []
            for hand, looks in enumerate(good[1]):
                left = list(record[1][hand])
                for ahead, look in enumerate(looks):
                    if look[0] in ("clock", "lot", "hear") and (not left or left.pop(0) != look[2]):
                        faults.append((hand, stand[0][hand] + ahead))
                if left:
                    faults.append((hand, record[0][hand]))
            answers.append(min(faults, default=None))
            same_kind(self, stays(self, gift_fault, stand, record, good), answers[-1])
        self.assertGreater(len(set(answers)), 10)


if __name__ == "__main__":
    unittest.main()
