import random
import unittest

from helper import N0, N1, X, program_of, random_program, same_kind, stand_behind, stays
from leastrecord.seats import first_seat
from leastrecord.stands import can_go, first_stand, is_stuck, waits
from leastrecord.steps import may_go


class FirstStand(unittest.TestCase):
    def test_every_part(self):
        program = program_of((("let", "x", N1), ("clock", "y")), (), (("take", "l"),))
        same_kind(self, stays(self, first_stand, program), (
            (0, 0, 0),
            ((1, (("x", 1),), ()), (0, (), ()), (0, (), ())),
            ((5, None), (0, None)),
            ((None, None), (None, None)),
            ((0, 0, ()), (0, 0, ())),
            (0, 0),
        ))

    def test_one_hand_and_nothing_else(self):
        same_kind(self, first_stand(((), (), (), (), (("a", ()),))), ((0,), ((0, (), ()),), (), (), (), ()))

    def test_parts_go_by_the_programs_order(self):
        program = ((("z", 1), ("y", 2), ("x", 999)), ("w",), ("v", "u", "t", "s"), ("r", "q", "p"), (("o", ()), ("n", ())))
        same_kind(self, first_stand(program), (
            (0, 0), ((0, (), ()), (0, (), ())), ((1, None), (2, None), (999, None)), ((None, None),), ((0, 0, ()),) * 4, (0,) * 3))

    def test_seats_are_first_seats(self):
        chance = random.Random(20)
        for turn in range(50):
            program = random_program(chance)
            seats = tuple(first_seat(program, hand) for hand in range(len(program[4])))
            same_kind(self, first_stand(program)[1], seats)


class Waits(unittest.TestCase):
    def asked(self, program, stand, told):
        """waits, and all else that is told of who may go."""
        free = [hand for hand, wait in enumerate(told) if wait is None]
        same_kind(self, stays(self, waits, program, stand), told)
        same_kind(self, stays(self, can_go, program, stand), free)
        for hand in range(len(told)):
            self.assertIs(stays(self, may_go, program, stand, hand), hand in free)
        stuck = free == [] and told != ("end",) * len(told)
        self.assertIs(stays(self, is_stuck, program, stand), stuck)

    def test_every_touch_that_never_waits(self):
        for row in (("get", "x", "b"), ("put", "b", X), ("send", "n", X), ("say", "d", X), ("clock", "x"), ("lot", "x", 6),
                    ("hear", "x", "d")):
            program = program_of((row,), (row,))
            self.asked(program, first_stand(program), (None, None))

    def test_hands_at_their_end(self):
        program = program_of((), (("clock", "x"),), (("let", "x", N1),))
        self.asked(program, first_stand(program), ("end", None, "end"))
        self.asked(program, stand_behind(program, (1, 3)), ("end", "end", "end"))

    def test_all_at_their_end_is_not_stuck(self):
        program = program_of((), ())
        self.assertIs(is_stuck(program, first_stand(program)), False)
        self.assertEqual(can_go(program, first_stand(program)), [])

    def test_a_lock(self):
        rows = (("take", "m"), ("put", "b", N1), ("free", "m"))
        program = program_of(rows, rows, (("take", "l"),))
        self.asked(program, first_stand(program), (None, None, None))
        self.asked(program, stand_behind(program, 1), (("lock", "m", 1), None, None))
        self.asked(program, stand_behind(program, 1, 1), (("lock", "m", 1), None, None))
        self.asked(program, stand_behind(program, 1, 1, 1), (None, "end", None))
        self.asked(program, stand_behind(program, 0), (None, ("lock", "m", 0), None))
        self.asked(program, stand_behind(program, 0, 2), (None, ("lock", "m", 0), "end"))
        self.asked(program, stand_behind(program, 2, 0, 0, 0, 1), ("end", None, "end"))

    def test_a_letter(self):
        program = program_of((("fetch", "x", "o"), ("fetch", "x", "o")), (("send", "o", N0), ("send", "n", N1), ("send", "o", N1)))
        self.asked(program, first_stand(program), (("letter", "o"), None))
        self.asked(program, stand_behind(program, 1), (None, None))
        self.asked(program, stand_behind(program, 1, 0), (("letter", "o"), None))
        self.asked(program, stand_behind(program, 1, 0, 1), (("letter", "o"), None))
        self.asked(program, stand_behind(program, 1, 0, 1, 1), (None, "end"))
        self.asked(program, stand_behind(program, 1, 1, 1, 0), (None, "end"))
        self.asked(program, stand_behind(program, 1, 1, 1, 0, 0), ("end", "end"))

    def test_stuck_by_locks_in_a_ring(self):
        program = program_of((("take", "l"), ("take", "m")), (("take", "m"), ("take", "l")))
        self.asked(program, stand_behind(program, 0, 1), (("lock", "m", 1), ("lock", "l", 0)))
        self.assertIs(is_stuck(program, stand_behind(program, 0, 1)), True)
        self.assertIs(is_stuck(program, stand_behind(program, 0)), False)
        self.asked(program, stand_behind(program, 0, 0), ("end", ("lock", "m", 0)))
        self.assertIs(is_stuck(program, stand_behind(program, 0, 0)), True)

    def test_stuck_by_letters_that_never_come(self):
        program = program_of((("fetch", "x", "n"),), ())
        self.asked(program, first_stand(program), (("letter", "n"), "end"))
        self.assertIs(is_stuck(program, first_stand(program)), True)
        program = program_of((("fetch", "x", "n"), ("send", "o", N1)), (("fetch", "x", "o"), ("send", "n", N1)), (("clock", "x"),))
        self.asked(program, first_stand(program), (("letter", "n"), ("letter", "o"), None))
        self.asked(program, stand_behind(program, (2, 0)), (("letter", "n"), ("letter", "o"), "end"))

    def test_a_lock_kept_at_the_end(self):
        program = program_of((("take", "l"),), (("take", "l"),), (("take", "l"),), (("take", "m"),))
        self.asked(program, stand_behind(program, 2), (("lock", "l", 2), ("lock", "l", 2), "end", None))
        self.asked(program, stand_behind(program, 2, 3), (("lock", "l", 2), ("lock", "l", 2), "end", "end"))

    def test_what_is_told_is_the_askers_own(self):
        program = program_of((("clock", "x"),), (("clock", "x"),))
        stand = first_stand(program)
        told = can_go(program, stand)
        told.clear()
        told.append(9)
        self.assertEqual(can_go(program, stand), [0, 1])


if __name__ == "__main__":
    unittest.main()
