import random
import unittest

from helper import (FETCH, FREE, GET, LOOP, N0, N1, PUT, SAY, SEND, TAKE, X, busy_scene, events_told,
                    needs_by_the_words, program_of, random_program, random_run, refused, run_of, runs_refused,
                    same_kind, stand_behind, stays)
from leastrecord.errors import NoRun
from leastrecord.needs import needs
from leastrecord.runs import tables_of, walked
from leastrecord.stands import can_go, first_stand
from leastrecord.steps import gone


class Needs(unittest.TestCase):
    def asked(self, program, steps, told, stand=None):
        same_kind(self, stays(self, needs, program, stand or first_stand(program), run_of(*steps)), told)

    def test_of_no_steps_and_of_one_hand(self):
        self.asked(program_of((PUT, GET, PUT)), (), ())
        self.asked(program_of((PUT, GET, PUT, TAKE, FREE, TAKE, FREE, SEND, SEND, FETCH, FETCH, SAY, SAY)), (0,) * 13, ())

    def test_a_put_and_the_gets_that_tell_it(self):
        self.asked(program_of((PUT,), (GET, GET), (GET,)), (0, 1, 2, 1), (((0, 0), (1, 0)), ((0, 0), (1, 1)), ((0, 0), (2, 0))))

    def test_a_put_and_the_put_that_tells_it(self):
        self.asked(program_of((PUT,), (PUT,), (PUT,)), (2, 0, 1), (((0, 0), (1, 0)), ((2, 0), (0, 0))))

    def test_a_put_alone_that_is_told(self):
        self.asked(program_of((PUT, PUT), (GET,)), (0, 0, 1), (((0, 1), (1, 0)),))
        self.asked(program_of((PUT,), (PUT,), (GET,)), (0, 1, 2), (((0, 0), (1, 0)), ((1, 0), (2, 0))))
        self.asked(program_of((PUT,), (PUT, GET)), (0, 1, 1), (((0, 0), (1, 0)),))

    def test_a_get_and_the_put_that_tells_the_same_mark(self):
        self.asked(program_of((GET,), (PUT,)), (0, 1), (((0, 0), (1, 0)),))
        self.asked(program_of((GET, GET), (PUT,), (GET,)), (0, 2, 0, 1), (((0, 0), (1, 0)), ((0, 1), (1, 0)), ((2, 0), (1, 0))))
        self.asked(program_of((PUT, GET), (PUT,)), (0, 0, 1), (((0, 0), (1, 0)), ((0, 1), (1, 0))))
        self.asked(program_of((PUT, PUT), (GET,), (PUT,)), (0, 1, 0, 2), (((0, 0), (1, 0)), ((0, 1), (2, 0)), ((1, 0), (0, 1))))

    def test_a_get_and_the_put_of_the_same_hand(self):
        self.asked(program_of((GET, PUT), (PUT,)), (0, 0, 1), (((0, 1), (1, 0)),))

    def test_values_alike_are_not_marks_alike(self):
        program = program_of((("put", "b", ("num", 5)), ("put", "b", ("num", 5))), (GET, GET))
        self.asked(program, (0, 1, 0, 1), (((0, 0), (1, 0)), ((0, 1), (1, 1)), ((1, 0), (0, 1))))

    def test_boxes_are_unlike(self):
        self.asked(program_of((PUT,), (("get", "x", "c"),)), (0, 1), ())
        self.asked(program_of((PUT,), (("put", "c", N1),)), (0, 1), ())
        self.asked(program_of((GET,), (("put", "c", N1),)), (0, 1), ())
        self.asked(program_of((("get", "x", "c"),), (PUT,)), (0, 1), ())

    def test_gets_alone(self):
        self.asked(program_of((GET,), (GET,)), (0, 1), ())

    def test_takes_of_one_lock(self):
        program = program_of((TAKE, FREE), (TAKE, FREE), (TAKE, FREE))
        self.asked(program, (2, 2, 0, 0, 1, 1), (((0, 0), (1, 0)), ((2, 0), (0, 0))))
        self.asked(program, (0, 0, 1), (((0, 0), (1, 0)),))

    def test_takes_by_one_hand_twice(self):
        program = program_of((TAKE, FREE, TAKE, FREE), (TAKE, FREE))
        self.asked(program, (0, 0, 0, 0, 1), (((0, 2), (1, 0)),))
        self.asked(program, (0, 0, 1, 1, 0), (((0, 0), (1, 0)), ((1, 0), (0, 2))))

    def test_a_free_told_twice_and_a_take_told_twice(self):
        program = program_of((TAKE, TAKE, FREE, FREE, TAKE, FREE), (TAKE, FREE, FREE))
        self.asked(program, (0, 0, 1, 1, 0, 0), (((0, 0), (1, 0)), ((1, 0), (0, 2))))

    def test_other_touches_within_a_hold(self):
        program = program_of((TAKE, ("take", "m"), ("free", "m"), SAY, FREE), (("take", "m"), ("free", "m"), TAKE))
        self.asked(program, (0, 0, 0, 1, 1, 0, 0, 1), (((0, 0), (1, 2)), ((0, 1), (1, 0))))

    def test_locks_are_unlike(self):
        self.asked(program_of((TAKE, FREE), (("take", "m"), ("free", "m"))), (0, 0, 1, 1), ())

    def test_sends_fetches_and_says(self):
        for row in (SEND, SAY):
            self.asked(program_of((row, row), (row,), (row,)), (0, 1, 0, 2), (((0, 0), (1, 0)), ((0, 1), (2, 0)), ((1, 0), (0, 1))))
            self.asked(program_of((row, row), (row,)), (0, 0, 1), (((0, 1), (1, 0)),))
        program = program_of((SEND, SEND, SEND, SEND, FETCH), (FETCH,), (FETCH, FETCH))
        self.asked(program, (0, 0, 0, 0, 2, 1, 0, 2), (((0, 4), (2, 1)), ((1, 0), (0, 4)), ((2, 0), (1, 0))))

    def test_a_send_and_its_fetch_are_none(self):
        self.asked(program_of((SEND, SEND), (FETCH, FETCH)), (0, 1, 0, 1), ())

    def test_lanes_and_doors_are_unlike(self):
        self.asked(program_of((SEND,), (("send", "o", N1),)), (0, 1), ())
        self.asked(program_of((SAY,), (("say", "e", N1),)), (0, 1), ())
        self.asked(program_of((SEND, ("send", "o", N1), FETCH), (("fetch", "x", "o"),)), (0, 0, 0, 1), ())

    def test_gifts_are_none(self):
        rows = (("clock", "x"), ("lot", "x", 2), ("hear", "x", "d"), SAY)
        self.asked(program_of(rows, rows[:3]), ((0, 1), (1, 1), (0, 1), (1, 1), (0, 1), (1, 1), 0), ())

    def test_of_touches_ahead_of_the_stand_none(self):
        program = program_of((PUT, TAKE, SEND, SAY, FREE), (GET, PUT, TAKE, SEND, SAY, FREE))
        stand = stand_behind(program, 0, 0, 0, 0)
        self.asked(program, (1, 1, 0, 1, 1, 1), (), stand)
        program = program_of((SEND, SEND, FETCH), (FETCH, FETCH))
        self.asked(program, (1,), (), stand_behind(program, 0, 0, 0))
        self.asked(program, (0, 1), (((0, 2), (1, 0)),), stand_behind(program, 0, 0))

    def test_numbers_count_since_the_programs_begin(self):
        program = program_of((PUT, LOOP), (GET, LOOP))
        self.asked(program, (1, 0, 1), (((0, 2), (1, 2)), ((1, 1), (0, 2))), stand_behind(program, 0, 0, 1))

    def test_gets_that_tell_a_mark_ahead_of_the_stand(self):
        program = program_of((PUT, LOOP), (GET, LOOP))
        self.asked(program, (1, 0), (((1, 0), (0, 1)),), stand_behind(program, 0))

    def test_rising_by_the_first_then_the_second(self):
        program = program_of((PUT, PUT), (GET, GET), (GET, GET))
        self.asked(program, (2, 1, 0, 2, 1, 0), (
            ((0, 0), (1, 1)), ((0, 0), (2, 1)), ((1, 0), (0, 0)), ((1, 1), (0, 1)), ((2, 0), (0, 0)), ((2, 1), (0, 1))))

    def test_sixty_steps_and_sixty_one(self):
        program = program_of((PUT, LOOP), (GET, LOOP))
        self.assertEqual(len(needs(program, first_stand(program), run_of(*[0, 1] * 30))), 59)
        refused(self, NoRun, (-1, "shape"), needs, program, first_stand(program), run_of(*[0, 1] * 30 + [0]))

    def test_what_is_no_run(self):
        program = program_of((PUT, LOOP), (GET, LOOP))
        for thing, told in runs_refused():
            refused(self, NoRun, told, needs, program, first_stand(program), thing)
        program = program_of((TAKE, ("clock", "x")), (TAKE,), (FETCH,))
        for step, word in ((1, "lock"), (2, "letter"), (0, "gift"), ((0, 1000), "gift")):
            refused(self, NoRun, (1, word), needs, program, first_stand(program), run_of(0, step))
        refused(self, NoRun, (2, "end"), needs, program, first_stand(program), run_of(0, (0, 1), 0))

    def test_as_the_words_tell(self):
        chance = random.Random(25)
        met = set()
        for turn in range(300):
            if turn % 3:
                program, stand, run = busy_scene(chance)
            else:
                program = random_program(chance)
                stand = first_stand(program)
                run = random_run(chance, program, stand, 60)
            touches = events_told(program, stand, run)
            told = stays(self, needs, program, stand, run)
            same_kind(self, told, needs_by_the_words(touches))
            places = {event: place for place, (event, look) in enumerate(touches)}
            looks = dict(touches)
            for one, other in told:
                self.assertLess(places[one], places[other])
                self.assertNotEqual(one[0], other[0])
                met.add((looks[one][0], looks[other][0]))
        self.assertEqual(met, {("put", "get"), ("put", "put"), ("get", "put"), ("take", "take"), ("send", "send"),
                               ("fetch", "fetch"), ("say", "say")})


class WhatNeedsJoin(unittest.TestCase):
    def changes(self, one, other):
        """Whether of two looks one changes what the other one tells."""
        kinds = {one[0], other[0]}
        if one[1] != other[1]:
            return False
        if kinds <= {"get", "put"}:
            return "put" in kinds
        return one[0] == other[0] and one[0] in ("take", "send", "fetch", "say")

    def test_touches_that_matter_to_one_another_are_joined(self):
        chance = random.Random(26)
        pairs = 0
        for turn in range(60):
            program, stand, run = busy_scene(chance, most_steps=30)
            touches = events_told(program, stand, run)
            joins = set(needs(program, stand, run))
            for place, (event, look) in enumerate(touches):
                if event[1] > stand[0][event[0]]:
                    joins.add(((event[0], event[1] - 1), event))
                if look[0] == "take" and look[3] is not None:
                    joins.add((look[3], event))
            reached = {}
            for event, look in touches:
                firsts = [first for first, second in joins if second == event]
                reached[event] = set(firsts).union(*[reached.get(first, set()) for first in firsts])
            for place, (event, look) in enumerate(touches):
                for other, earlier in touches[:place]:
                    if other[0] != event[0] and self.changes(earlier, look):
                        self.assertIn(other, reached[event])
                        pairs += 1
        self.assertGreater(pairs, 300)

    def all_runs(self, program, stand, most):
        """All runs of so many steps, each gift being 0 or 1."""
        runs = [((), stand)]
        for turn in range(most):
            longer = []
            for run, here in runs:
                for hand in can_go(program, here):
                    asks = program[4][hand][1][here[1][hand][0]][0] in ("clock", "lot", "hear")
                    for gift in (0, 1) if asks else (None,):
                        longer.append((run + ((hand, gift),), gone(program, here, hand, gift)[0]))
            runs += [one for one in longer if one not in runs][:3000]
        return runs

    def test_runs_with_the_same_needs_are_one(self):
        programs = (
            program_of((GET, ("put", "b", ("add", X, N1))), (GET, ("put", "b", ("add", X, N1)))),
            program_of((TAKE, PUT, FREE), (TAKE, ("put", "b", N0), FREE)),
            program_of((SEND, FETCH), (("send", "n", N0), FETCH)),
            program_of((("clock", "x"), ("say", "d", X)), (SAY,), (SAY,)))
        met = 0
        for program in programs:
            stand = first_stand(program)
            known = {}
            for run, end in self.all_runs(program, stand, 6):
                gifts = tuple(tuple(gift for hand, gift in run if hand == one) for one in range(len(program[4])))
                key = (end[0], gifts, needs(program, stand, run))
                told = (tables_of(program, stand, run), walked(program, stand, run)[0])
                met += key in known
                self.assertEqual(known.setdefault(key, told), told)
        self.assertGreater(met, 20)


if __name__ == "__main__":
    unittest.main()
