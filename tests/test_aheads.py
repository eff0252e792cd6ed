import random
import unittest

from helper import (FETCH, FREE, GET, N1, PUT, SAY, SEND, TAKE, busy_scene, events_ahead, events_told, program_of,
                    random_record, refuses_what_does_not_fit, run_of, same_kind, stand_behind, stays)
from leastrecord.aheads import aheads, is_ahead
from leastrecord.records import whole_record
from leastrecord.stands import first_stand


class Aheads(unittest.TestCase):
    def asked(self, program, steps, edges, told, stand=None):
        """The aheads of a run by its counts, its gifts and these edges."""
        stand = stand or first_stand(program)
        run = run_of(*steps)
        upto, gifts, needed = whole_record(program, stand, run)
        same_kind(self, stays(self, aheads, program, stand, run, (upto, gifts, edges)), told)

    def test_own(self):
        self.asked(program_of((PUT, GET, PUT)), (0, 0, 0), (), (((0,), (1,), (2,)),))
        self.asked(program_of((PUT, PUT), (GET,), ()), (0, 0, 1), (), (((0, 0, 0), (1, 0, 0)), ((0, 0, 0),), ()))
        self.asked(program_of((PUT,), (GET,)), (), (), ((), ()))

    def test_needs_alone_bring_nothing(self):
        program = program_of((PUT, GET, TAKE, FREE, SEND, SAY), (GET, PUT, TAKE, FREE, SEND, SAY))
        steps = (0, 1, 1, 0, 0, 0, 0, 0, 1, 1, 1, 1)
        self.asked(program, steps, (), (tuple((k, 0) for k in range(6)), tuple((0, k) for k in range(6))))

    def test_edges(self):
        program = program_of((PUT, PUT, PUT), (GET, GET, GET))
        steps = (0, 0, 1, 1, 0, 1)
        self.asked(program, steps, (((0, 0), (1, 0)),), (((0, 0), (1, 0), (2, 0)), ((1, 0), (1, 1), (1, 2))))
        self.asked(program, steps, (((0, 1), (1, 1)),), (((0, 0), (1, 0), (2, 0)), ((0, 0), (2, 1), (2, 2))))
        self.asked(program, steps, (((0, 1), (1, 1)), ((0, 2), (1, 2)), ((1, 0), (0, 2))),
                   (((0, 0), (1, 0), (2, 1)), ((0, 0), (2, 1), (3, 2))))
        self.asked(program, steps, (((0, 0), (1, 1)), ((0, 1), (1, 1))), (((0, 0), (1, 0), (2, 0)), ((0, 0), (2, 1), (2, 2))))

    def test_what_is_ahead_of_that(self):
        program = program_of((SAY, SAY), (SAY, SAY), (SAY, SAY), (SAY,))
        self.asked(program, (0, 0, 1, 1, 2, 2, 3), (((0, 1), (1, 0)), ((1, 1), (2, 1)), ((2, 1), (3, 0))),
                   (((0, 0, 0, 0), (1, 0, 0, 0)), ((2, 0, 0, 0), (2, 1, 0, 0)), ((0, 0, 0, 0), (2, 2, 1, 0)), ((2, 2, 2, 0),)))

    def test_edges_beyond_a_run_that_is_broken_off(self):
        program = program_of((PUT, PUT), (GET, GET))
        stand = first_stand(program)
        record = ((2, 2), ((), ()), (((0, 0), (1, 0)), ((0, 1), (1, 1)), ((1, 0), (0, 1))))
        same_kind(self, aheads(program, stand, run_of(0, 1), record), (((0, 0),), ((1, 0),)))
        same_kind(self, aheads(program, stand, run_of(0), record), (((0, 0),), ()))

    def test_letters(self):
        program = program_of((SEND, SEND, SEND), (FETCH, FETCH))
        self.asked(program, (0, 0, 0, 1, 1), (), (((0, 0), (1, 0), (2, 0)), ((1, 0), (2, 1))))
        self.asked(program, (0, 1, 0, 1), (), (((0, 0), (1, 0)), ((1, 0), (2, 1))))

    def test_letters_of_several_senders(self):
        program = program_of((SEND, SEND), (SEND,), (SAY, FETCH, FETCH, FETCH))
        self.asked(program, (0, 1, 2, 0, 2, 2, 2), (),
                   (((0, 0, 0), (1, 0, 0)), ((0, 0, 0),), ((0, 0, 0), (1, 0, 1), (1, 1, 2), (2, 1, 3))))

    def test_fetches_of_others_bring_sends_only_where_they_are_ahead(self):
        program = program_of((SEND, SEND, SEND), (FETCH,), (FETCH,))
        self.asked(program, (0, 0, 0, 1, 2), (), (((0, 0, 0), (1, 0, 0), (2, 0, 0)), ((1, 0, 0),), ((1, 0, 0),)))
        self.asked(program, (0, 0, 0, 1, 2), (((1, 0), (2, 0)),), (((0, 0, 0), (1, 0, 0), (2, 0, 0)), ((1, 0, 0),), ((2, 1, 0),)))

    def test_a_fetch_ahead_through_other_touches(self):
        program = program_of((SEND,), (SEND, SEND), (FETCH, SEND), (FETCH, FETCH))
        # Hand 2's send brings its fetch with it, and that one letter more.
        self.asked(program, (0, 1, 2, 2, 1, 3), (((2, 1), (3, 0)),),
                   (((0, 0, 0, 0),), ((0, 0, 0, 0), (0, 1, 0, 0)), ((1, 0, 0, 0), (1, 0, 1, 0)), ((1, 1, 2, 0),)))
        program = program_of((FETCH, SEND), (SEND, SEND), (FETCH, FETCH))
        own = (((0, 1, 0), (1, 1, 0)), ((0, 0, 0), (0, 1, 0)))
        self.asked(program, (1, 0, 0, 1, 2), (), own + (((0, 1, 0),),))
        self.asked(program, (1, 0, 0, 1, 2, 2), (((0, 0), (2, 0)),), own + (((2, 1, 0), (2, 2, 1)),))

    def test_a_fetch_brings_a_send_that_brings_a_fetch_that_brings_a_send(self):
        program = program_of((FETCH, SEND), (SEND, SEND), (FETCH,), (FETCH,))
        # By the edge letter 1 is ahead; hand 0 sent it behind its own fetch, so letter 2 is ahead as well.
        self.asked(program, (1, 0, 0, 2, 1, 3), (((2, 0), (3, 0)),),
                   (((0, 1, 0, 0), (1, 1, 0, 0)), ((0, 0, 0, 0), (0, 1, 0, 0)), ((0, 1, 0, 0),), ((2, 2, 1, 0),)))

    def test_letters_that_waited_at_the_stand(self):
        program = program_of((SEND, SEND, SEND, SEND), (FETCH, FETCH, FETCH, FETCH))
        stand = stand_behind(program, 0, 0, 1)
        self.asked(program, (1, 0, 1, 0, 1), (), (((2, 1), (3, 1)), ((2, 1), (3, 2), (4, 3))), stand)

    def test_fetches_ahead_of_the_stand_count(self):
        program = program_of((SEND, SEND, SEND), (FETCH,), (FETCH,))
        stand = stand_behind(program, 0, 1)
        self.asked(program, (0, 0, 2), (), (((1, 1, 0), (2, 1, 0)), (), ((2, 1, 0),)), stand)

    def test_other_lanes(self):
        program = program_of((("send", "o", N1), SEND), (("fetch", "x", "o"), FETCH))
        self.asked(program, (0, 0, 1, 1), (), (((0, 0), (1, 0)), ((1, 0), (2, 1))))
        program = program_of((("send", "o", N1), SEND), (FETCH, ("fetch", "x", "o")))
        self.asked(program, (0, 0, 1, 1), (), (((0, 0), (1, 0)), ((2, 0), (2, 1))))

    def test_a_take_brings_the_free_where_a_take_is_ahead(self):
        program = program_of((TAKE, SAY, FREE, SAY), (SAY, TAKE, FREE))
        steps = (0, 0, 0, 0, 1, 1, 1)
        own = ((0, 0), (1, 0), (2, 0), (3, 0))
        self.asked(program, steps, (), (own, ((0, 0), (0, 1), (0, 2))))
        for first in (0, 1):
            self.asked(program, steps, (((0, first), (1, 1)),), (own, ((0, 0), (3, 1), (3, 2))))
            self.asked(program, steps, (((0, first), (1, 0)),), (own, ((first + 1, 0), (3, 1), (3, 2))))
        self.asked(program, steps, (((0, 3), (1, 0)),), (own, ((4, 0), (4, 1), (4, 2))))

    def test_a_free_brings_a_take_that_brings_a_free(self):
        program = program_of((TAKE, SAY, FREE), (TAKE, SAY, FREE), (SAY, TAKE, FREE))
        steps = (0, 0, 0, 1, 1, 1, 2, 2)
        # Hand 1's free has hand 0's say ahead of it, and with it hand 0's take.
        self.asked(program, steps, (((0, 1), (1, 1)), ((1, 0), (2, 1))),
                   (((0, 0, 0), (1, 0, 0), (2, 0, 0)), ((0, 0, 0), (2, 1, 0), (2, 2, 0)), ((0, 0, 0), (3, 3, 1))))

    def test_a_hand_that_takes_twice(self):
        program = program_of((TAKE, FREE, TAKE, FREE), (TAKE,))
        self.asked(program, (0, 0, 0, 0, 1), (((0, 0), (1, 0)),), (((0, 0), (1, 0), (2, 0), (3, 0)), ((2, 0),)))
        self.asked(program, (0, 0, 0, 0, 1), (((0, 2), (1, 0)),), (((0, 0), (1, 0), (2, 0), (3, 0)), ((4, 0),)))

    def test_other_locks(self):
        program = program_of((TAKE, ("take", "m"), ("free", "m"), FREE), (("take", "m"), ("free", "m"), TAKE))
        self.asked(program, (0, 0, 0, 0, 1, 1, 1), (((0, 0), (1, 0)),),
                   (((0, 0), (1, 0), (2, 0), (3, 0)), ((1, 0), (1, 1), (4, 2))))
        self.asked(program, (0, 0, 0, 0, 1, 1, 1), (((0, 1), (1, 0)),),
                   (((0, 0), (1, 0), (2, 0), (3, 0)), ((3, 0), (3, 1), (4, 2))))

    def test_a_lock_that_another_hand_held_at_the_stand(self):
        program = program_of((TAKE, SAY, FREE, TAKE, FREE), (SAY, TAKE, FREE), (TAKE,))
        stand = stand_behind(program, 0)
        self.asked(program, (1, 0, 0, 1, 1, 2), (),
                   (((1, 0, 0), (2, 0, 0)), ((1, 0, 0), (3, 1, 0), (3, 2, 0)), ((3, 0, 0),)), stand)
        self.asked(program, (1, 0, 0, 0, 0, 1, 1), (),
                   (((1, 0, 0), (2, 0, 0), (3, 0, 0), (4, 0, 0)), ((1, 0, 0), (3, 1, 0), (3, 2, 0)), ()), stand)
        self.asked(program, (1, 0, 0, 1, 1, 0), (),
                   (((1, 0, 0), (2, 0, 0), (3, 0, 0)), ((1, 0, 0), (3, 1, 0), (3, 2, 0)), ()), stand)

    def test_a_lock_that_was_freed_ahead_of_the_stand(self):
        program = program_of((TAKE, FREE), (TAKE,))
        self.asked(program, (1,), (), ((), ((2, 0),)), stand_behind(program, 0, 0))

    def test_refusals(self):
        refuses_what_does_not_fit(self, aheads, False)

    def test_as_the_words_tell(self):
        chance = random.Random(32)
        brought = set()
        for turn in range(250):
            program, stand, run = busy_scene(chance, most_steps=40)
            record = random_record(chance, program, stand, run, whole_record(program, stand, run))
            touches = events_told(program, stand, run)
            asked_run = run[:chance.randrange(len(run) + 1)] if turn % 5 == 0 else run
            touches = touches[:len(asked_run)]
            ahead = events_ahead(program, stand, touches, record)
            told = stays(self, aheads, program, stand, asked_run, record)
            hands = range(len(program[4]))
            made = [[event for event, look in touches if event[0] == hand] for hand in hands]
            same_kind(self, told, tuple(
                tuple(tuple(stand[0][hand] + sum(1 for e in ahead[event] if e[0] == hand) for hand in hands)
                      for event in sorted(made[one])) for one in hands))
            places = {event: place for place, (event, look) in enumerate(touches)}
            for event in places:
                for other in places:
                    self.assertIs(is_ahead(stand, told, other, event), other in ahead[event])
                    if other in ahead[event]:
                        self.assertLess(places[other], places[event])
                        brought.add((dict(touches)[other][0], dict(touches)[event][0]))
        self.assertLessEqual({("send", "fetch"), ("free", "take")}, brought)


class IsAhead(unittest.TestCase):
    program = program_of((PUT, PUT, PUT, PUT), (GET, GET, GET), (SAY,))

    def test_by_the_numbers(self):
        stand = first_stand(self.program)
        record = ((2, 2, 0), ((),) * 3, (((0, 0), (1, 1)),))
        told = aheads(self.program, stand, run_of(0, 1, 0, 1), record)
        for one, other, answer in (((0, 0), (1, 1), True), ((0, 1), (1, 1), False), ((0, 0), (1, 0), False), ((1, 0), (1, 1), True),
                                   ((1, 1), (1, 1), False), ((1, 1), (1, 0), False), ((1, 1), (0, 0), False), ((0, 0), (0, 1), True),
                                   ((2, 0), (1, 1), False), ((0, 77), (1, 1), False), ((2, 10 ** 39), (0, 0), False)):
            self.assertIs(stays(self, is_ahead, stand, told, one, other), answer)

    def test_what_was_made_ahead_of_the_stand(self):
        stand = stand_behind(self.program, 0, 0, 1, 2)
        record = ((4, 3, 1), ((),) * 3, (((0, 2), (1, 2)),))
        told = aheads(self.program, stand, run_of(0, 1, 1, 0), record)
        self.assertEqual(told, (((2, 1, 1), (3, 1, 1)), ((2, 1, 1), (3, 2, 1)), ()))
        for other in ((0, 2), (0, 3), (1, 1), (1, 2)):
            for one in ((0, 0), (0, 1), (1, 0), (2, 0)):
                self.assertIs(stays(self, is_ahead, stand, told, one, other), True)
        for one, other, answer in (((0, 2), (1, 2), True), ((0, 2), (1, 1), False), ((0, 3), (1, 2), False), ((1, 1), (0, 3), False),
                                   ((1, 1), (1, 2), True), ((0, 2), (0, 2), False), ((0, 4), (1, 2), False), ((2, 1), (1, 2), False)):
            self.assertIs(is_ahead(stand, told, one, other), answer)


if __name__ == "__main__":
    unittest.main()
