import itertools
import random
import unittest

from helper import (CLOCK, FETCH, FREE, GET, LOOP, PUT, SEND, TAKE, busy_scene, events_ahead, events_told, odd_things, program_of,
                    random_record, refused, refuses_what_does_not_fit, run_of, same_kind, stand_behind, stays)
from leastrecord.cuts import counts_at, cut, is_cut
from leastrecord.errors import NoCut
from leastrecord.least import least_record
from leastrecord.opens import is_enough
from leastrecord.records import is_record, whole_record
from leastrecord.runs import walked
from leastrecord.stands import first_stand


class CountsAt(unittest.TestCase):
    def test_behind_each_step(self):
        program = program_of((CLOCK, LOOP), (GET, LOOP), (PUT,))
        stand = first_stand(program)
        run = run_of(1, (0, 5), 1, 1, 2)
        told = [(0, 0, 0), (0, 1, 0), (1, 1, 0), (1, 2, 0), (1, 3, 0), (1, 3, 1)]
        for place, counts in enumerate(told):
            same_kind(self, stays(self, counts_at, stand, run, place), counts)

    def test_from_a_stand_by_the_way(self):
        program = program_of((CLOCK, LOOP), (GET, LOOP))
        stand = stand_behind(program, 1, 1, (0, 3))
        same_kind(self, counts_at(stand, run_of(1, (0, 5)), 0), (1, 2))
        same_kind(self, counts_at(stand, run_of(1, (0, 5)), 1), (1, 3))
        same_kind(self, counts_at(stand, run_of(1, (0, 5)), 2), (2, 3))

    def test_one_hand_and_no_steps(self):
        program = program_of((CLOCK, LOOP))
        same_kind(self, counts_at(first_stand(program), (), 0), (0,))
        same_kind(self, counts_at(stand_behind(program, (0, 3)), (), 0), (1,))


def cuts_by_the_words(program, stand, run, record):
    """All cuts: each tuple of numbers whose touches have all that is ahead of them."""
    touches = events_told(program, stand, run)
    ahead = events_ahead(program, stand, touches, record)
    found = []
    for counts in itertools.product(*[range(least, most + 1) for least, most in zip(stand[0], record[0])]):
        below = {event for event, look in touches if event[1] < counts[event[0]]}
        if all(ahead[event] <= below for event in below):
            found.append(counts)
    return found


class Cuts(unittest.TestCase):
    def pieces(self, program, stand, run, record, counts):
        """The pieces of a run, each with a record that is enough; both lead to the run's stand."""
        told = stays(self, cut, program, stand, run, record, counts)
        (begin, first), (middle, rest, second) = told
        same_kind(self, told, ((tuple(begin), tuple(first)), (middle, tuple(rest), tuple(second))))
        self.assertIs(is_record(program, stand, first), True)
        self.assertIs(is_enough(program, stand, begin, first), True)
        self.assertEqual(middle, walked(program, stand, begin)[0])
        self.assertIs(is_record(program, middle, second), True)
        self.assertIs(is_enough(program, middle, rest, second), True)
        self.assertEqual(walked(program, middle, rest)[0], walked(program, stand, run)[0])
        events = [event for event, look in events_told(program, stand, run)]
        self.assertEqual(begin, tuple(step for step, event in zip(run, events) if event[1] < counts[event[0]]))
        self.assertEqual(rest, tuple(step for step, event in zip(run, events) if event[1] >= counts[event[0]]))
        same_kind(self, (first[0], second[0]), (counts, record[0]))
        self.assertEqual(tuple(a + b for a, b in zip(first[1], second[1])), record[1])
        self.assertEqual(first[2], tuple(edge for edge in record[2] if all(k < counts[hand] for hand, k in edge)))
        self.assertEqual(second[2], tuple(edge for edge in record[2] if all(k >= counts[hand] for hand, k in edge)))
        return told

    def is_no_cut(self, program, stand, run, record, thing, word):
        self.assertIs(stays(self, is_cut, program, stand, run, record, thing), False)
        refused(self, NoCut, (word,), cut, program, stand, run, record, thing)

    def enough_scene(self, chance, most_steps):
        program, stand, run = busy_scene(chance, most_steps=most_steps)
        record = random_record(chance, program, stand, run, whole_record(program, stand, run))
        if not is_enough(program, stand, run, record):
            record = chance.choice([least_record, whole_record])(program, stand, run)
        return program, stand, run, record

    def test_an_ordinary_cut(self):
        program = program_of((PUT, CLOCK, SEND), (CLOCK, FETCH, GET))
        stand = first_stand(program)
        run = run_of(0, (1, 4), (0, 3), 0, 1, 1)
        record = ((3, 3), ((3,), (4,)), ())
        middle = stand_behind(program, 0, (1, 4))
        same_kind(self, self.pieces(program, stand, run, record, (1, 1)), (
            (run_of(0, (1, 4)), ((1, 1), ((), (4,)), ())), (middle, run_of((0, 3), 0, 1, 1), ((3, 3), ((3,), ()), ()))))
        same_kind(self, self.pieces(program, stand, run, record, (3, 0)), (
            (run_of(0, (0, 3), 0), ((3, 0), ((3,), ()), ())),
            (stand_behind(program, 0, (0, 3), 0), run_of((1, 4), 1, 1), ((3, 3), ((), (4,)), ()))))
        self.is_no_cut(program, stand, run, record, (2, 2), "ahead")
        self.is_no_cut(program, stand, run, record, (0, 3), "ahead")

    def test_edges_stay_with_their_piece(self):
        program = program_of((PUT, LOOP), (GET, LOOP))
        stand = first_stand(program)
        run = run_of(0, 1, 0, 1)
        record = whole_record(program, stand, run)
        self.assertEqual(record[2], (((0, 0), (1, 0)), ((0, 1), (1, 1)), ((1, 0), (0, 1))))
        (begin, first), (middle, rest, second) = self.pieces(program, stand, run, record, (1, 1))
        self.assertEqual((first[2], second[2]), ((((0, 0), (1, 0)),), (((0, 1), (1, 1)),)))
        (begin, first), (middle, rest, second) = self.pieces(program, stand, run, record, (1, 0))
        self.assertEqual((first[2], second[2]), ((), (((0, 1), (1, 1)), ((1, 0), (0, 1)))))
        self.is_no_cut(program, stand, run, record, (0, 1), "ahead")
        self.is_no_cut(program, stand, run, record, (2, 0), "ahead")

    def test_at_both_ends(self):
        program = program_of((PUT, CLOCK), (GET, CLOCK))
        stand = stand_behind(program, 0)
        run = run_of(1, (0, 5), (1, 6))
        record = ((2, 2), ((5,), (6,)), (((0, 1), (1, 1)),))
        same_kind(self, self.pieces(program, stand, run, record, (1, 0)), (
            ((), ((1, 0), ((), ()), ())), (stand, run, record)))
        end = walked(program, stand, run)[0]
        same_kind(self, self.pieces(program, stand, run, record, (2, 2)), (
            (run, record), (end, (), ((2, 2), ((), ()), ()))))

    def test_no_steps(self):
        program = program_of((PUT,), (GET,))
        stand = stand_behind(program, 0)
        record = ((1, 0), ((), ()), ())
        same_kind(self, self.pieces(program, stand, (), record, (1, 0)), (((), record), (stand, (), record)))
        self.is_no_cut(program, stand, (), record, (0, 0), "counts")

    def test_things_that_are_no_counts(self):
        program = program_of((PUT, CLOCK), (GET, CLOCK))
        stand = stand_behind(program, 0)
        run = run_of((0, 5), 1, (1, 6))
        record = ((2, 2), ((5,), (6,)), ())
        self.assertIs(stays(self, is_cut, program, stand, run, record, (1, 1)), True)
        for thing in odd_things() + [(), (1,), (1, 1, 1), (0, 0), (0, 1), (3, 1), (1, 3), (1, -1), (1, True), (True, 1), (1, False), (True, False),
                                     (1, None), ("1", 1), ((1,), 1), (1, [1]), [1, 1], {0: 1, 1: 1}, "11", ((1, 1),), (10 ** 39, 1), (1, 10 ** 39)]:
            self.is_no_cut(program, stand, run, record, thing, "counts")

    def test_counts_go_ahead_of_ahead(self):
        program = program_of((PUT,), (GET,))
        run = run_of(0, 1)
        record = ((1, 1), ((), ()), (((0, 0), (1, 0)),))
        self.is_no_cut(program, first_stand(program), run, record, (0, 1), "ahead")
        self.is_no_cut(program, first_stand(program), run, record, (0, 2), "counts")
        self.is_no_cut(program, first_stand(program), run, record, (0, True), "counts")
        self.is_no_cut(program, first_stand(program), run, record, [0, 1], "counts")

    def test_locks_and_letters(self):
        program = program_of((TAKE, PUT, FREE), (TAKE, GET, FREE))
        stand = first_stand(program)
        run = run_of(0, 0, 0, 1, 1, 1)
        record = ((3, 3), ((), ()), (((0, 0), (1, 0)),))
        for counts in itertools.product(range(4), range(4)):
            if counts[1] == 0 or counts[0] == 3:
                self.pieces(program, stand, run, record, counts)
            else:
                self.is_no_cut(program, stand, run, record, counts, "ahead")
        program = program_of((SEND, LOOP), (FETCH, LOOP))
        stand = stand_behind(program, 0, 0, 1)
        run = run_of(0, 1, 1, 0)
        record = ((4, 3), ((), ()), ())
        for counts in itertools.product(range(2, 5), range(1, 4)):
            if counts[1] <= counts[0]:
                self.pieces(program, stand, run, record, counts)
            else:
                self.is_no_cut(program, stand, run, record, counts, "ahead")

    def test_a_lock_held_at_the_cut(self):
        program = program_of((TAKE, PUT, FREE), (TAKE, GET, FREE), (TAKE,))
        stand = first_stand(program)
        run = run_of(0, 0, 0, 1, 1, 1, 2)
        record = whole_record(program, stand, run)
        for counts in ((1, 0, 0), (2, 0, 0), (3, 1, 0), (3, 2, 0)):
            (begin, first), (middle, rest, second) = self.pieces(program, stand, run, record, counts)
            self.assertIsNotNone(middle[3][0][0])

    def test_at_every_place_of_a_run(self):
        chance = random.Random(80)
        for turn in range(40):
            program, stand, run, record = self.enough_scene(chance, 30)
            for place in range(len(run) + 1):
                counts = stays(self, counts_at, stand, run, place)
                self.assertEqual(counts, walked(program, stand, run[:place])[0][0])
                self.assertIs(stays(self, is_cut, program, stand, run, record, counts), True)
                (begin, first), (middle, rest, second) = self.pieces(program, stand, run, record, counts)
                self.assertEqual((begin, rest), (run[:place], run[place:]))

    def test_all_tuples_of_numbers(self):
        chance = random.Random(81)
        met = [0, 0]
        for turn in range(60):
            program, stand, run, record = self.enough_scene(chance, 9)
            right = cuts_by_the_words(program, stand, run, record)
            for counts in itertools.product(*[range(max(0, least - 1), most + 2) for least, most in zip(stand[0], record[0])]):
                told = is_cut(program, stand, run, record, counts)
                self.assertIs(told, counts in right)
                met[told] += 1
                if told:
                    self.pieces(program, stand, run, record, counts)
                else:
                    within = all(least <= number <= most for least, number, most in zip(stand[0], counts, record[0]))
                    refused(self, NoCut, ("ahead" if within else "counts",), cut, program, stand, run, record, counts)
        self.assertGreater(min(met), 300)

    def test_a_record_that_is_not_enough(self):
        program = program_of((PUT, CLOCK), (GET,))
        stand = first_stand(program)
        run = run_of(0, 1, (0, 5))
        for record in (((2, 1), ((5,), ()), ()), ((2, 1), ((None,), ()), (((0, 0), (1, 0)),))):
            for thing in ((0, 0), (2, 1), (0, 1), (9, 9), None, [0, 0], "", (True, 0)):
                refused(self, NoCut, ("open",), cut, program, stand, run, record, thing)
                refused(self, NoCut, ("open",), is_cut, program, stand, run, record, thing)

    def test_runs_that_do_not_keep_the_record(self):
        for ask in (is_cut, cut):
            for thing in ((0, 0), None):
                def asked(program, stand, run, record):
                    try:
                        return ask(program, stand, run, record, thing)
                    except NoCut:
                        return None
                refuses_what_does_not_fit(self, asked, True)


if __name__ == "__main__":
    unittest.main()
