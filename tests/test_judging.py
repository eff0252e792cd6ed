import random
import unittest

from helper import (CLOCK, FETCH, FREE, GET, LOOP, PUT, SAY, SEND, TAKE, busy_scene, odd_things, program_of, random_record, random_run,
                    refused, refuses_what_does_not_fit, run_of, runs_refused, search, stand_behind, stays)
from leastrecord.checker import lets
from leastrecord.errors import NoParts
from leastrecord.fitting import misfit
from leastrecord.judging import judged, lets_parts
from leastrecord.least import least_record
from leastrecord.opens import is_enough
from leastrecord.records import whole_record, without_edge, without_gift
from leastrecord.runs import parted
from leastrecord.stands import first_stand


class Judged(unittest.TestCase):
    def told(self, program, stand, run, record):
        """The word of the answer, which is a right one."""
        answer = stays(self, judged, program, stand, run, record)
        self.assertIs(type(answer), tuple)
        word, thing = answer
        if word == "paper":
            self.assertIs(lets(program, stand, record, thing), True)
        else:
            self.assertEqual(word, "parts")
            self.assertIs(stays(self, lets_parts, program, stand, run, record, thing), True)
            self.assertIsNone(misfit(program, stand, thing, record))
            self.assertIsNotNone(parted(program, stand, run, thing))
        return word

    def asked(self, rows, steps, edges, told, gifts=None, stand_steps=()):
        program = program_of(*rows)
        stand = stand_behind(program, *stand_steps)
        run = run_of(*steps)
        whole = whole_record(program, stand, run)
        self.assertEqual(self.told(program, stand, run, (whole[0], gifts or whole[1], edges)), told)

    def test_nothing_open(self):
        self.asked(((PUT,), (GET,)), (), (), "paper")
        self.asked(((PUT,), (GET,)), (0, 1), (((0, 0), (1, 0)),), "paper")
        self.asked(((GET,), (GET,)), (0, 1), (), "paper")
        self.asked(((CLOCK, SAY),), ((0, 5), 0), (), "paper")
        self.asked(((PUT, SEND), (FETCH, GET)), (0, 0, 1, 1), (), "paper")
        self.asked(((TAKE, PUT, FREE), (TAKE, GET)), (0, 0, 1, 1), (), "paper", None, (0,))

    def test_something_open(self):
        self.asked(((PUT,), (GET,)), (0, 1), (), "parts")
        self.asked(((GET,), (PUT,)), (0, 1), (), "parts")
        self.asked(((CLOCK, SAY),), ((0, 5), 0), (), "parts", ((None,),))
        self.asked(((TAKE, PUT, FREE), (TAKE, GET)), (0, 0, 0, 1, 1), (), "parts")
        self.asked(((SAY, LOOP), (SAY, LOOP)), (0, 1), (), "parts", None, (0, 1))

    def test_just_one_of_both(self):
        chance = random.Random(70)
        words = []
        for turn in range(200):
            program, stand, run = busy_scene(chance, most_steps=25)
            record = random_record(chance, program, stand, run, whole_record(program, stand, run))
            words.append(self.told(program, stand, run, record))
            self.assertEqual(words[-1], "paper" if is_enough(program, stand, run, record) else "parts")
        self.assertGreater(min(words.count("paper"), words.count("parts")), 40)

    def test_as_trying_all_tells(self):
        chance = random.Random(71)
        for turn in range(100):
            program, stand, run = busy_scene(chance, most_rows=6, most_steps=12, most_hands=3)
            record = random_record(chance, program, stand, run, whole_record(program, stand, run))
            other = search(program, stand, run, record)[0]
            self.assertEqual(self.told(program, stand, run, record), "paper" if other is None else "parts")

    def test_of_least_records_no_entry_can_be_left_out(self):
        chance = random.Random(72)
        for turn in range(25):
            program, stand, run = busy_scene(chance, most_steps=20)
            record = least_record(program, stand, run)
            self.assertEqual(self.told(program, stand, run, record), "paper")
            for edge in record[2]:
                self.assertEqual(self.told(program, stand, run, without_edge(record, edge)), "parts")
            for hand, gifts in enumerate(record[1]):
                for n in range(len(gifts)):
                    self.assertEqual(self.told(program, stand, run, without_gift(record, hand, n)), "parts")

    def test_refusals(self):
        refuses_what_does_not_fit(self, judged, True)


class LetsParts(unittest.TestCase):
    program = program_of((PUT, LOOP), (GET, CLOCK, LOOP))
    stand = first_stand(program)
    made = run_of(0, 1, (1, 7), 0)
    record = ((2, 2), ((), (7,)), ())

    def let(self, other, record=None):
        self.assertIs(stays(self, lets_parts, self.program, self.stand, self.made, record or self.record, other), True)

    def refused(self, thing, word, record=None):
        refused(self, NoParts, (word,), lets_parts, self.program, self.stand, self.made, record or self.record, thing)

    def test_runs_that_part(self):
        self.let(run_of(1))
        self.let(run_of(1, 0))
        self.let(run_of(0, 0, 1))
        self.let(run_of(1, (1, 7), 0, 0))

    def test_no_runs(self):
        for thing in odd_things() + [[(1, None)], ((1, None, None),), ([1, None],), ((1, 0),), ((True, None),), ((2, None),), ((1, None), (1, None)),
                                     ((1, None), (1, 1000)), ((1, None),) * 61, (1, None), "ab"]:
            if thing != ():
                self.refused(thing, "run")
        for thing, told in runs_refused():
            self.refused(thing, "run")

    def test_runs_that_do_not_fit(self):
        self.refused(run_of(1, (1, 8)), "fit")
        self.refused(run_of(0, 0, 0), "fit")
        self.refused(run_of(1, (1, 7), 1), "fit")
        self.refused(run_of(1), "fit", ((2, 2), ((), (7,)), (((0, 0), (1, 0)),)))
        self.refused(run_of(0, 0, 1), "fit", ((2, 2), ((), (7,)), (((1, 0), (0, 1)),)))

    def test_runs_that_do_not_part(self):
        for thing in ((), run_of(0), run_of(0, 1), run_of(0, 1, (1, 7)), self.made, run_of(0, 1, 0, (1, 7)), run_of(0, 0)):
            self.refused(thing, "alike")

    def test_a_gift_that_is_none_in_the_record(self):
        record = ((2, 2), ((), (None,)), (((0, 0), (1, 0)), ((1, 0), (0, 1))))
        self.let(run_of(0, 1, (1, 8)), record)
        self.let(run_of(0, 1, 0, (1, 0)), record)
        self.refused(run_of(0, 1, (1, 7), 0), "alike", record)
        self.refused(run_of(0, 1, (1, 1000)), "run", record)
        self.refused(run_of(0, 1, (1, True)), "run", record)

    def test_the_first_word_that_is_due(self):
        # The first step doesn't fit, and a later one can't be done.
        self.refused(run_of(1, (1, 8), (1, 8)), "run")
        # Neither does it part.
        self.refused(run_of(0, 1, (1, 7), 0, 0), "fit")

    def test_the_run_goes_ahead(self):
        for thing in (None, run_of(1), ()):
            def ask(program, stand, run, record):
                try:
                    return lets_parts(program, stand, run, record, thing)
                except NoParts:
                    return None
            refuses_what_does_not_fit(self, ask, True)

    def test_any_run(self):
        chance = random.Random(73)
        words = []
        for turn in range(400):
            program, stand, run = busy_scene(chance, most_rows=6, most_steps=12)
            record = random_record(chance, program, stand, run, whole_record(program, stand, run))
            other = random_run(chance, program, stand, chance.randrange(13))
            word = None
            if misfit(program, stand, other, record) is not None:
                word = "fit"
            elif parted(program, stand, run, other) is None:
                word = "alike"
            words.append(word)
            if word is None:
                self.assertIs(stays(self, lets_parts, program, stand, run, record, other), True)
            else:
                refused(self, NoParts, (word,), lets_parts, program, stand, run, record, other)
        for word in (None, "fit", "alike"):
            self.assertGreater(words.count(word), 10, word)


if __name__ == "__main__":
    unittest.main()
