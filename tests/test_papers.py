import random
import unittest

from helper import (CLOCK, GET, LOOP, PUT, SAY, TAKE, busy_scene, odd_things, program_of, random_record,
                    refuses_what_does_not_fit, run_of, same_kind, stand_behind, stays)
from leastrecord.aheads import aheads
from leastrecord.papers import is_paper, paper_of
from leastrecord.records import whole_record
from leastrecord.runs import tables_of
from leastrecord.stands import first_stand

PROGRAM = program_of((PUT, CLOCK, LOOP), (GET, SAY, LOOP))
FIRST = first_stand(PROGRAM)
RECORD = ((2, 1), ((7,), ()), (((0, 0), (1, 0)),))
RUN = run_of(0, 1, (0, 7))
GOOD = ((0, 1, 0), ((("put", "b", 1, None), ("clock", "", 7, None)), (("get", "b", 1, (0, 0)),)), (((0, 0), (1, 0)), ((1, 0),)))


class IsPaper(unittest.TestCase):
    def asked(self, thing, told, record=RECORD, stand=FIRST, program=PROGRAM):
        self.assertIs(stays(self, is_paper, program, stand, record, thing), told)

    def test_the_paper_of_a_run(self):
        self.asked(GOOD, True)

    def test_no_touches(self):
        for upto, stand in (((0, 0), FIRST), ((2, 1), stand_behind(PROGRAM, 0, (0, 7), 1))):
            record = (upto, ((), ()), ())
            self.asked(((), ((), ()), ((), ())), True, record, stand)
            for thing in (((0,), ((), ()), ((), ())), ((), ((0,), ()), ((), ())), ((), ((), ()), (((0, 0),), ())), ((), (), ()),
                          ((), ((),), ((), ())), ((), ((), ()), ((),)), ((), ((), (), ()), ((), ())), ((), ((), ()), ((), (), ()))):
                self.asked(thing, False, record, stand)

    def test_any_plain_thing(self):
        for thing in odd_things() + [GOOD[:2], GOOD + ((),), list(GOOD), (GOOD,), dict(enumerate(GOOD)), "abc", None]:
            self.asked(thing, False)

    def test_orders(self):
        for order in ((0, 0, 1), (1, 0, 0)):
            self.asked((order,) + GOOD[1:], True)
        for order in ((), (0,), (0, 0), (0, 1), (0, 0, 0), (1, 1, 0), (1, 1, 1), (0, 1, 0, 1), (0, 0, 1, 0), (0, 2, 0), (0, 1, 0, 2), (0, -1, 0),
                      (0, 1, 0, -1), (-1, 0, 1, 0), (0, True, 0), (False, 1, 0), (0, 1, False), (0, None, 0), (0, "1", 0),
                      (0, (1,), 0), (0, [1], 0), [0, 1, 0],
                      "010", None, 3, {0: 2, 1: 1}, {}, ((0, 0), (1, 0), (0, 1)), (0, 1, 0, 10 ** 39)):
            self.asked((order,) + GOOD[1:], False)

    def test_tables_are_of_whatever_things(self):
        for odd in odd_things():
            self.asked((GOOD[0], ((odd, odd), (odd,)), GOOD[2]), True)
            self.asked((GOOD[0], (GOOD[1][0], (odd,)), GOOD[2]), True)

    def test_tables_of_other_sizes_and_kinds(self):
        one, two = GOOD[1]
        for tables in ((), (one,), (one, two, ()), (two, one), (one + one[:1], two), (one[:1], two), (one, ()), (one, two + two), [one, two],
                       (list(one), two), (one, list(two)), (one, None), (None, two), (one, "a"), ("ab", two), (one, {0: 0}), None, "ab", 2,
                       {0: one, 1: two}):
            self.asked((GOOD[0], tables, GOOD[2]), False)

    def test_claims_are_of_whatever_numbers_from_0_on(self):
        for claim in ((0, 0), (9, 9), (0, int("9" * 40)), (1, 0)):
            self.asked((GOOD[0], GOOD[1], ((claim, claim), (claim,))), True)

    def test_claims_of_other_sizes_and_kinds(self):
        one, two = GOOD[2]
        for told in ((), (one,), (one, two, ()), (two, one), (one + one[:1], two), (one[:1], two), (one, ()), (one, two + two), [one, two],
                     (list(one), two), (one, list(two)), (one, None), (None, two), (one, "a"), (one, {0: 0}), None, "ab", 2, {0: one, 1: two}):
            self.asked((GOOD[0], GOOD[1], told), False)
        for claim in odd_things() + [(), (0,), (0, 0, 0), [0, 0], (0, -1), (-1, 0), (0, True), (False, 0), (0, None), (None, 0), (0, "0"), ("", 0),
                                     (0, (0,)), ([], 0), {0: 0, 1: 0}, "ab"]:
            self.asked((GOOD[0], GOOD[1], (one, (claim,))), False)
            self.asked((GOOD[0], GOOD[1], ((claim, one[1]), two)), False)
            self.asked((GOOD[0], GOOD[1], ((one[0], claim), two)), False)

    def test_by_the_record_and_the_stand(self):
        self.asked(GOOD, False, ((3, 1), ((7,), ()), ()))
        self.asked(GOOD, False, ((2, 2), ((7,), ()), ()))
        self.asked(GOOD, False, ((1, 1), ((7,), ()), ()))
        self.asked(GOOD, True, ((2, 1), ((), (None,)), ()))
        later = stand_behind(PROGRAM, 0, 1, 1)
        self.asked(GOOD, True, ((3, 3), ((), ()), ()), later)
        self.asked(GOOD, False, RECORD, stand_behind(PROGRAM, 0))
        self.asked(GOOD, False, ((3, 2), ((), ()), ()), later)
        self.asked(GOOD, False, ((10 ** 39, 10 ** 39), ((), ()), ()), later)

    def test_one_hand_and_four(self):
        one = program_of((PUT,))
        self.asked(((0,), ((None,),), (((0,),),)), True, ((1,), ((),), ()), first_stand(one), one)
        self.asked(((0,), ((None,),), (((0, 0),),)), False, ((1,), ((),), ()), first_stand(one), one)
        four = program_of((PUT,), (), (PUT,), (PUT,))
        claims = (((0, 0, 0, 0),), (), ((0, 0, 0, 0),), ((0, 0, 0, 0),))
        record = ((1, 0, 1, 1), ((),) * 4, ())
        self.asked(((3, 0, 2), ((1,), (), (2,), (3,)), claims), True, record, first_stand(four), four)
        self.asked(((3, 0, 1), ((1,), (), (2,), (3,)), claims), False, record, first_stand(four), four)
        self.asked(((3, 0, 2), ((1,), (2,), (), (3,)), claims), False, record, first_stand(four), four)


class PaperOf(unittest.TestCase):
    def test_order_tables_and_aheads(self):
        same_kind(self, stays(self, paper_of, PROGRAM, FIRST, RUN, RECORD), GOOD)
        same_kind(self, paper_of(PROGRAM, FIRST, RUN, ((2, 1), ((None,), ()), ())), GOOD[:2] + ((((0, 0), (1, 0)), ((0, 0),)),))
        same_kind(self, paper_of(PROGRAM, FIRST, (), ((0, 0), ((), ()), ())), ((), ((), ()), ((), ())))

    def test_from_a_stand_by_the_way(self):
        stand = stand_behind(PROGRAM, 0, (0, 7), 1)
        same_kind(self, stays(self, paper_of, PROGRAM, stand, run_of(1, 0, 1), ((3, 3), ((), ()), ())), (
            (1, 0, 1), ((("put", "b", 1, (0, 0)),), (("say", "d", 1, 0), ("get", "b", 1, (0, 2)))), (((2, 1),), ((2, 1), (2, 2)))))

    def test_of_each_run_that_keeps_a_record(self):
        chance = random.Random(40)
        for turn in range(120):
            program, stand, run = busy_scene(chance)
            record = random_record(chance, program, stand, run, whole_record(program, stand, run))
            told = stays(self, paper_of, program, stand, run, record)
            order = tuple(hand for hand, gift in run)
            same_kind(self, told, (order, tables_of(program, stand, run), aheads(program, stand, run, record)))
            self.assertIs(is_paper(program, stand, record, told), True)

    def test_refusals(self):
        refuses_what_does_not_fit(self, paper_of, True)

    def test_a_record_that_is_not_enough_has_one_too(self):
        program = program_of((PUT,), (GET,))
        same_kind(self, paper_of(program, first_stand(program), run_of(0, 1), ((1, 1), ((), ()), ())),
                  ((0, 1), ((("put", "b", 1, None),), (("get", "b", 1, (0, 0)),)), (((0, 0),), ((0, 0),))))
        program = program_of((TAKE,))
        same_kind(self, paper_of(program, first_stand(program), run_of(0), ((1,), ((),), ())), ((0,), ((("take", "l", None, None),),), (((0,),),)))


if __name__ == "__main__":
    unittest.main()
