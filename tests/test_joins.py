import random
import unittest

from helper import (CLOCK, GET, LOOP, N1, PUT, SAY, busy_scene, program_of, random_run, refused, refuses_what_does_not_fit,
                    run_of, runs_refused, same_kind, search, stand_behind, stays)
from leastrecord.cuts import counts_at, cut
from leastrecord.errors import NoCut, NoFit, NoRun
from leastrecord.joins import joined
from leastrecord.judging import judged
from leastrecord.least import least_record, lessened
from leastrecord.opens import is_enough
from leastrecord.records import is_record, whole_record
from leastrecord.runs import walked
from leastrecord.stands import first_stand


class Joined(unittest.TestCase):
    def told(self, program, stand, one, other):
        """What is told of two pieces: a run and a record as the words tell it, which is enough."""
        told = stays(self, joined, program, stand, one, other)
        middle = walked(program, stand, one[0])[0]
        upto = other[1][0]
        between = [((a, middle[0][a] - 1), (b, middle[0][b])) for a in range(len(upto)) for b in range(len(upto))
                   if a != b and middle[0][a] > stand[0][a] and upto[b] > middle[0][b]]
        gifts = tuple(first + second for first, second in zip(one[1][1], other[1][1]))
        same_kind(self, told, (one[0] + other[0], (upto, gifts, tuple(sorted(set(one[1][2] + other[1][2]) | set(between))))))
        self.assertIs(is_record(program, stand, told[1]), True)
        self.assertIs(is_enough(program, stand, told[0], told[1]), True)
        return told

    def test_two_ordinary_pieces(self):
        program = program_of((PUT, CLOCK, LOOP), (GET, SAY, LOOP))
        stand = first_stand(program)
        one = (run_of(0, 1), ((1, 1), ((), ()), (((0, 0), (1, 0)),)))
        other = (run_of((0, 5), 1, 1, 0), ((3, 3), ((5,), ()), (((1, 2), (0, 2)),)))
        same_kind(self, self.told(program, stand, one, other), (
            run_of(0, 1, (0, 5), 1, 1, 0),
            ((3, 3), ((5,), ()), (((0, 0), (1, 0)), ((0, 0), (1, 1)), ((1, 0), (0, 1)), ((1, 2), (0, 2))))))

    def test_hands_without_touches_in_a_piece(self):
        program = program_of((CLOCK, LOOP), (CLOCK, LOOP), (CLOCK, LOOP))
        stand = stand_behind(program, (1, 1), (2, 1))
        one = (run_of((0, 3), (0, 4)), ((2, 1, 1), ((3, 4), (), ()), ()))
        other = (run_of((1, 5), (0, 6)), ((3, 2, 1), ((6,), (5,), ()), ()))
        same_kind(self, self.told(program, stand, one, other), (
            run_of((0, 3), (0, 4), (1, 5), (0, 6)), ((3, 2, 1), ((3, 4, 6), (5,), ()), (((0, 1), (1, 1)),))))
        one = (run_of((0, 3), (2, 4)), ((1, 1, 2), ((3,), (), (4,)), ()))
        other = (run_of((1, 5), (2, 6)), ((1, 2, 3), ((), (5,), (6,)), ()))
        same_kind(self, self.told(program, stand, one, other)[1][2], (((0, 0), (1, 1)), ((0, 0), (2, 2)), ((2, 1), (1, 1))))

    def test_pieces_without_steps(self):
        program = program_of((CLOCK, LOOP), (CLOCK, LOOP))
        stand = stand_behind(program, (1, 1))
        none = ((), ((0, 1), ((), ()), ()))
        some = (run_of((0, 3), (1, 4)), ((1, 2), ((3,), (4,)), ()))
        same_kind(self, self.told(program, stand, none, none), none)
        same_kind(self, self.told(program, stand, none, some), some)
        same_kind(self, self.told(program, stand, some, ((), ((1, 2), ((), ()), ()))), some)

    def test_one_hand(self):
        program = program_of((CLOCK, LOOP))
        one = (run_of((0, 3)), ((1,), ((3,),), ()))
        other = (run_of((0, 4)), ((2,), ((4,),), ()))
        same_kind(self, self.told(program, first_stand(program), one, other), (run_of((0, 3), (0, 4)), ((2,), ((3, 4),), ())))

    def test_any_pieces(self):
        chance = random.Random(90)
        for turn in range(120):
            program, stand, run = busy_scene(chance, most_steps=30)
            middle = walked(program, stand, run)[0]
            rest = random_run(chance, program, middle, chance.choice([5, 30]))
            one = (run, chance.choice([least_record, whole_record])(program, stand, run))
            other = (rest, chance.choice([least_record, whole_record])(program, middle, rest))
            told = self.told(program, stand, one, other)
            self.assertEqual(judged(program, stand, told[0], told[1])[0], "paper")

    def test_cut_and_joined_again(self):
        chance = random.Random(91)
        for turn in range(40):
            program, stand, run = busy_scene(chance, most_steps=20)
            record = least_record(program, stand, run)
            counts = counts_at(stand, run, chance.randrange(len(run) + 1))
            one, (middle, rest, second) = cut(program, stand, run, record, counts)
            told = self.told(program, stand, one, (rest, second))
            self.assertEqual(told[0], run)
            less = lessened(program, stand, told[0], told[1])
            self.assertIs(is_enough(program, stand, run, less), True)

    def test_all_runs_that_fit_are_alike(self):
        chance = random.Random(92)
        for turn in range(60):
            program, stand, run = busy_scene(chance, most_rows=6, most_steps=6, most_hands=3)
            middle = walked(program, stand, run)[0]
            rest = random_run(chance, program, middle, 6)
            told = self.told(program, stand, (run, least_record(program, stand, run)), (rest, least_record(program, middle, rest)))
            self.assertIsNone(search(program, stand, told[0], told[1])[0])


class Refused(unittest.TestCase):
    program = program_of((PUT, LOOP), (GET, CLOCK, LOOP))
    stand = first_stand(program)
    one = (run_of(0, 1), ((1, 1), ((), ()), (((0, 0), (1, 0)),)))
    other = (run_of((1, 5), 1, 0), ((2, 3), ((), (5,)), (((1, 2), (0, 1)),)))

    def refused(self, one, other, error, fields):
        refused(self, error, fields, joined, self.program, self.stand, one, other)

    def test_these_are_not(self):
        stays(self, joined, self.program, self.stand, self.one, self.other)

    def test_the_first_piece(self):
        for other in (self.other, (None, self.other[1]), (run_of((1, 6)), self.other[1]), (self.other[0], ((2, 3), ((), (5,)), ()))):
            for thing, told in runs_refused():
                self.refused((thing, self.one[1]), other, NoRun, told)
            self.refused((run_of(0, 1, 1), self.one[1]), other, NoRun, (2, "gift"))
            self.refused((run_of(1, 0), self.one[1]), other, NoFit, (0, "edge"))
            self.refused((run_of(0, 0), self.one[1]), other, NoFit, (1, "upto"))
            self.refused((run_of(0), self.one[1]), other, NoFit, (1, "end"))
            self.refused((self.one[0], ((1, 1), ((), (5,)), (((0, 0), (1, 0)),))), other, NoFit, (2, "end"))
            self.refused((self.one[0], ((1, 1), ((), ()), ())), other, NoCut, ("open",))

    def test_the_second_piece(self):
        for thing, told in runs_refused():
            self.refused(self.one, (thing, self.other[1]), NoRun, told)
        self.refused(self.one, (run_of(1), self.other[1]), NoRun, (0, "gift"))
        self.refused(self.one, (run_of((1, 5), 0, 1), self.other[1]), NoFit, (1, "edge"))
        self.refused(self.one, (run_of((1, 4)), self.other[1]), NoFit, (0, "gift"))
        self.refused(self.one, (run_of((1, 5), 1), self.other[1]), NoFit, (2, "end"))
        self.refused(self.one, (self.other[0], ((2, 3), ((), (5,)), ())), NoCut, ("open",))
        self.refused(self.one, (self.other[0], ((2, 3), ((), (None,)), self.other[1][2])), NoCut, ("open",))

    def test_of_each_piece_in_the_order(self):
        def first(program, stand, run, record):
            return joined(program, stand, (run, record), ((), (walked(program, stand, run)[0][0], ((), ()), ())))

        def second(program, stand, run, record):
            return joined(program, stand, ((), (stand[0], ((), ()), ())), (run, record))

        def opened(ask):
            def asked(program, stand, run, record):
                try:
                    return ask(program, stand, run, record)
                except NoCut:
                    return None
            return asked

        refuses_what_does_not_fit(self, opened(first), True)
        refuses_what_does_not_fit(self, opened(second), True)

    def test_no_fit_goes_ahead_of_no_cut(self):
        program = program_of((PUT, ("leap", 0, N1)), (GET, ("leap", 0, N1)))
        stand = first_stand(program)
        bent = (run_of(0, 1), ((1, 2), ((), ()), ()))
        refused(self, NoFit, (2, "end"), joined, program, stand, bent, bent)


if __name__ == "__main__":
    unittest.main()
