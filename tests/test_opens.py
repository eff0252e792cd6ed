import random
import unittest

from helper import (CLOCK, FETCH, FREE, GET, PUT, SAY, SEND, TAKE, busy_scene, events_ahead, events_told,
                    needs_by_the_words, program_of, random_record, refuses_what_does_not_fit, run_of, same_kind,
                    search, stand_behind, stays)
from leastrecord.opens import is_enough, open_of
from leastrecord.records import whole_record
from leastrecord.runs import walked
from leastrecord.stands import first_stand


class Opens(unittest.TestCase):
    def asked(self, program, steps, edges, told, gifts=None, stand=None):
        """What is open in a run by its counts, these edges and gifts, or its own."""
        stand = stand or first_stand(program)
        run = run_of(*steps)
        upto, given, needed = whole_record(program, stand, run)
        record = (upto, given if gifts is None else gifts, edges)
        same_kind(self, stays(self, open_of, program, stand, run, record), told)
        self.assertIs(stays(self, is_enough, program, stand, run, record), told == [])

    def test_needs_of_each_kind(self):
        for one, other in ((PUT, GET), (PUT, PUT), (GET, PUT), (SEND, SEND), (SAY, SAY)):
            program = program_of((one,), (other,))
            self.asked(program, (0, 1), (), [("need", (0, 0), (1, 0))])
            self.asked(program, (0, 1), (((0, 0), (1, 0)),), [])
        self.asked(program_of((GET,), (GET,)), (0, 1), (), [])

    def test_takes(self):
        program = program_of((TAKE, FREE, SAY), (TAKE, FREE))
        self.asked(program, (0, 0, 1), (), [("need", (0, 0), (1, 0))])
        self.asked(program, (0, 0, 1), (((0, 0), (1, 0)),), [])
        self.asked(program, (0, 0, 1), (((0, 1), (1, 0)),), [])
        self.asked(program, (0, 0, 0, 1), (((0, 2), (1, 0)),), [])

    def test_fetches(self):
        program = program_of((SEND, SEND), (FETCH,), (FETCH,))
        self.asked(program, (0, 0, 1, 2), (), [("need", (1, 0), (2, 0))])
        self.asked(program, (0, 0, 2, 1), (((2, 0), (1, 0)),), [])

    def test_what_a_letter_brings_is_not_open(self):
        program = program_of((PUT, SEND), (FETCH, GET))
        self.asked(program, (0, 0, 1, 1), (), [])
        program = program_of((SEND, PUT), (FETCH, GET))
        self.asked(program, (0, 0, 1, 1), (), [("need", (0, 1), (1, 1))])

    def test_what_lies_behind_an_edge_is_not_open(self):
        program = program_of((PUT, SAY), (SAY, GET))
        self.asked(program, (0, 0, 1, 1), (((0, 1), (1, 0)),), [])
        self.asked(program, (0, 0, 1, 1), (((0, 1), (1, 1)),), [("need", (0, 1), (1, 0))])
        self.asked(program, (0, 0, 1, 1), (((0, 0), (1, 0)),), [("need", (0, 1), (1, 0))])
        self.asked(program, (0, 0, 1, 1), (((0, 0), (1, 1)),), [("need", (0, 1), (1, 0))])

    def test_gifts(self):
        program = program_of((CLOCK, PUT, ("lot", "x", 6), ("hear", "x", "d")), (CLOCK,))
        steps = ((0, 3), 0, (0, 4), (0, 5), (1, 6))
        self.asked(program, steps, (), [])
        self.asked(program, steps, (), [("gift", (0, 0))], ((None, 4, 5), (6,)))
        self.asked(program, steps, (), [("gift", (0, 2)), ("gift", (0, 3))], ((3, None, None), (6,)))
        self.asked(program, steps, (), [("gift", (0, 3)), ("gift", (1, 0))], ((3, 4, None), (None,)))

    def test_gifts_stand_ahead_of_needs_each_rising(self):
        program = program_of((PUT, CLOCK), (GET, CLOCK), (GET,))
        self.asked(program, (0, 1, 2, (1, 8), (0, 0)), (),
                   [("gift", (0, 1)), ("gift", (1, 1)), ("need", (0, 0), (1, 0)), ("need", (0, 0), (2, 0))], ((None,), (None,), ()))

    def test_from_a_stand_by_the_way(self):
        program = program_of((PUT, TAKE, SEND, CLOCK, FREE, PUT), (GET, TAKE, FETCH, GET, CLOCK))
        stand = stand_behind(program, 0, 0, 0, (0, 7))
        self.asked(program, (1, 0, 1, 1), (), [], stand=stand)
        self.asked(program, (1, 0, 1, 1, 0, 1, (1, 7)), (), [("need", (0, 5), (1, 3)), ("need", (1, 0), (0, 5))], stand=stand)
        self.asked(program, (1, 0, 1, 1, 1, (1, 7)), (), [("gift", (1, 4))], ((), (None,)), stand)

    def test_a_run_that_is_broken_off(self):
        program = program_of((PUT, CLOCK), (GET, CLOCK))
        stand = first_stand(program)
        record = ((2, 2), ((None,), (4,)), (((0, 0), (1, 0)),))
        for steps, told in (((), []), ((0,), []), ((0, (0, 9)), [("gift", (0, 1))]), ((0, 1), []), ((0, 1, (1, 4)), [])):
            same_kind(self, stays(self, open_of, program, stand, run_of(*steps), record), told)
            self.assertIs(stays(self, is_enough, program, stand, run_of(*steps), record), False)

    def test_gifts_left_over_are_not_kept(self):
        program = program_of((PUT, CLOCK))
        for gifts, told in (((3,), True), ((3, 3), False), ((3, None), False)):
            self.assertIs(is_enough(program, first_stand(program), run_of(0, (0, 3)), ((2,), (gifts,), ())), told)

    def test_what_is_told_is_the_askers_own(self):
        program = program_of((PUT,), (GET,))
        things = (program, first_stand(program), run_of(0, 1), ((1, 1), ((), ()), ()))
        told = open_of(*things)
        told.clear()
        self.assertEqual(open_of(*things), [("need", (0, 0), (1, 0))])

    def test_refusals(self):
        refuses_what_does_not_fit(self, open_of, False)
        refuses_what_does_not_fit(self, is_enough, False)

    def test_as_the_words_tell(self):
        chance = random.Random(34)
        sizes = []
        for turn in range(200):
            program, stand, run = busy_scene(chance, most_steps=40)
            whole = whole_record(program, stand, run)
            record = random_record(chance, program, stand, run, whole)
            touches = events_told(program, stand, run)
            ahead = events_ahead(program, stand, touches, record)
            told = [("need", one, other) for one, other in needs_by_the_words(touches) if one not in ahead[other]]
            for hand, gifts in enumerate(record[1]):
                asking = [event for event, look in touches if event[0] == hand and look[0] in ("clock", "lot", "hear")]
                told += [("gift", event) for event, gift in zip(asking, gifts) if gift is None]
            same_kind(self, stays(self, open_of, program, stand, run, record), sorted(told))
            self.assertIs(stays(self, is_enough, program, stand, run, record), told == [])
            self.assertIs(is_enough(program, stand, run, whole), True)
            sizes.append(len(told))
        self.assertGreater(sizes.count(0), 10)
        self.assertGreater(sum(size > 2 for size in sizes), 10)

    def test_just_where_nothing_is_open_no_run_that_fits_parts(self):
        chance = random.Random(35)
        answers = []
        for turn in range(250):
            program, stand, run = busy_scene(chance, most_rows=6, most_steps=12, most_hands=3)
            record = random_record(chance, program, stand, run, whole_record(program, stand, run))
            other, ends = search(program, stand, run, record)
            answers.append(is_enough(program, stand, run, record))
            self.assertIs(answers[-1], other is None)
            if other is None:
                self.assertEqual(ends, [walked(program, stand, run)[0]])
        self.assertGreater(min(answers.count(True), answers.count(False)), 30)


if __name__ == "__main__":
    unittest.main()
