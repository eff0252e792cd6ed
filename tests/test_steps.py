import unittest

from helper import N0, N1, X, Y, nested, odd_things, program_of, same_kind, stand_behind, stays
from leastrecord.errors import LeastError, NoGo
from leastrecord.stands import first_stand
from leastrecord.steps import gone, may_go


class Gone(unittest.TestCase):
    def step(self, program, stand, hand, gift, look):
        """The stand behind, the look being this one."""
        behind, told = stays(self, gone, program, stand, hand, gift)
        same_kind(self, told, look)
        self.assertIs(type(behind), tuple)
        return behind

    def test_get_and_put(self):
        program = program_of((("get", "x", "b"), ("put", "b", ("add", X, N1)), ("put", "c", N0)), (("get", "y", "b"), ("put", "b", Y)))
        stand = self.step(program, first_stand(program), 0, None, ("get", "b", 5, None))
        same_kind(self, stand, ((1, 0), ((1, (("x", 5),), ()), (0, (), ())), ((5, None), (0, None)), ((None, None),) * 2,
                                ((0, 0, ()),) * 2, (0, 0)))
        stand = self.step(program, stand, 0, None, ("put", "b", 6, None))
        same_kind(self, stand[2], ((6, (0, 1)), (0, None)))
        same_kind(self, stand[0], (2, 0))
        stand = self.step(program, stand, 1, None, ("get", "b", 6, (0, 1)))
        same_kind(self, stand[2], ((6, (0, 1)), (0, None)))
        stand = self.step(program, stand, 1, None, ("put", "b", 6, (0, 1)))
        same_kind(self, stand[2], ((6, (1, 1)), (0, None)))
        stand = self.step(program, stand, 0, None, ("put", "c", 0, None))
        same_kind(self, stand, ((3, 2), ((3, (("x", 5),), ()), (2, (("y", 6),), ())), ((6, (1, 1)), (0, (0, 2))),
                                ((None, None),) * 2, ((0, 0, ()),) * 2, (0, 0)))

    def test_a_get_of_0_leaves_no_pocket(self):
        program = program_of((("let", "x", N1), ("get", "x", "c")))
        stand = self.step(program, first_stand(program), 0, None, ("get", "c", 0, None))
        same_kind(self, stand[1], ((2, (), ()),))

    def test_take_and_free(self):
        rows = (("take", "m"), ("free", "m"))
        program = program_of(rows + rows, rows)
        stand = self.step(program, first_stand(program), 0, None, ("take", "m", None, None))
        same_kind(self, stand, ((1, 0), ((1, (), ("m",)), (0, (), ())), ((5, None), (0, None)), ((None, None), (0, None)),
                                ((0, 0, ()),) * 2, (0, 0)))
        stand = self.step(program, stand, 0, None, ("free", "m", None, None))
        same_kind(self, stand[3], ((None, None), (None, (0, 1))))
        same_kind(self, stand[1], ((2, (), ()), (0, (), ())))
        stand = self.step(program, stand, 1, None, ("take", "m", None, (0, 1)))
        same_kind(self, stand[3], ((None, None), (1, (0, 1))))
        stand = self.step(program, stand, 1, None, ("free", "m", None, None))
        same_kind(self, stand[3], ((None, None), (None, (1, 1))))
        stand = self.step(program, stand, 0, None, ("take", "m", None, (1, 1)))
        same_kind(self, stand[3], ((None, None), (0, (1, 1))))
        stand = self.step(program, stand, 0, None, ("free", "m", None, None))
        same_kind(self, stand, ((4, 2), ((4, (), ()), (2, (), ())), ((5, None), (0, None)), ((None, None), (None, (0, 3))),
                                ((0, 0, ()),) * 2, (0, 0)))

    def test_send_and_fetch(self):
        program = program_of((("send", "o", ("num", 7)), ("send", "o", N0), ("send", "n", ("num", 3)), ("send", "o", ("num", 9))),
                             (("fetch", "x", "o"), ("fetch", "y", "o"), ("fetch", "x", "o")))
        stand = self.step(program, first_stand(program), 0, None, ("send", "o", 7, 0))
        same_kind(self, stand, ((1, 0), ((1, (), ()), (0, (), ())), ((5, None), (0, None)), ((None, None),) * 2,
                                ((0, 0, ()), (1, 0, (7,))), (0, 0)))
        stand = self.step(program, stand, 0, None, ("send", "o", 0, 1))
        same_kind(self, stand[4], ((0, 0, ()), (2, 0, (7, 0))))
        stand = self.step(program, stand, 1, None, ("fetch", "o", 7, 0))
        same_kind(self, stand[4], ((0, 0, ()), (2, 1, (0,))))
        same_kind(self, stand[1][1], (1, (("x", 7),), ()))
        stand = self.step(program, stand, 0, None, ("send", "n", 3, 0))
        stand = self.step(program, stand, 0, None, ("send", "o", 9, 2))
        same_kind(self, stand[4], ((1, 0, (3,)), (3, 1, (0, 9))))
        stand = self.step(program, stand, 1, None, ("fetch", "o", 0, 1))
        stand = self.step(program, stand, 1, None, ("fetch", "o", 9, 2))
        same_kind(self, stand, ((4, 3), ((4, (), ()), (3, (("x", 9),), ())), ((5, None), (0, None)), ((None, None),) * 2,
                                ((1, 0, (3,)), (3, 3, ())), (0, 0)))

    def test_say_counts_at_its_door_and_hear_does_not(self):
        program = program_of((("say", "e", ("num", 4)), ("hear", "x", "e"), ("say", "e", X), ("say", "d", X)), (("say", "e", N1),))
        stand = self.step(program, first_stand(program), 0, None, ("say", "e", 4, 0))
        same_kind(self, stand[5], (0, 1))
        stand = self.step(program, stand, 0, 8, ("hear", "e", 8, None))
        same_kind(self, stand[5], (0, 1))
        stand = self.step(program, stand, 1, None, ("say", "e", 1, 1))
        stand = self.step(program, stand, 0, None, ("say", "e", 8, 2))
        stand = self.step(program, stand, 0, None, ("say", "d", 8, 0))
        same_kind(self, stand, ((4, 1), ((4, (("x", 8),), ()), (1, (), ())), ((5, None), (0, None)), ((None, None),) * 2,
                                ((0, 0, ()),) * 2, (1, 3)))

    def test_gifts_go_into_the_pocket(self):
        program = program_of((("clock", "x"), ("lot", "y", 6), ("hear", "z", "d"), ("clock", "x")))
        stand = self.step(program, first_stand(program), 0, 999, ("clock", "", 999, None))
        stand = self.step(program, stand, 0, 5, ("lot", "", 5, None))
        stand = self.step(program, stand, 0, 1, ("hear", "d", 1, None))
        same_kind(self, stand, ((3,), ((3, (("x", 999), ("y", 5), ("z", 1)), ()),), ((5, None), (0, None)), ((None, None),) * 2,
                                ((0, 0, ()),) * 2, (0, 0)))
        stand = self.step(program, stand, 0, 0, ("clock", "", 0, None))
        same_kind(self, stand[1], ((4, (("y", 5), ("z", 1)), ()),))

    def test_it_goes_on_to_the_next_touch(self):
        program = program_of((("clock", "x"), ("let", "y", ("add", X, X)), ("leap", 4, Y), ("say", "d", N0), ("say", "e", Y)))
        same_kind(self, gone(program, first_stand(program), 0, 4)[0][1], ((4, (("x", 4), ("y", 8)), ()),))
        same_kind(self, gone(program, first_stand(program), 0, 0)[0][1], ((3, (), ()),))

    def test_counts_go_on_as_events(self):
        program = program_of((("put", "b", N1), ("leap", 0, N1)), (("put", "b", N0), ("leap", 0, N1)))
        stand = first_stand(program)
        last = None
        for number in range(40):
            stand = self.step(program, stand, 1, None, ("put", "b", 0, last))
            last = (1, number)
            same_kind(self, stand[2][0], (0, last))
        stand = self.step(program, stand, 0, None, ("put", "b", 1, (1, 39)))
        same_kind(self, (stand[0], stand[2][0]), ((1, 40), (1, (0, 0))))

    def test_the_last_hand_of_four(self):
        program = program_of((), (), (("take", "l"),), (("take", "m"), ("put", "b", N1)))
        stand = stand_behind(program, 3, 2, 3)
        same_kind(self, (stand[0], stand[3], stand[2][0]), ((0, 0, 1, 2), ((2, None), (3, None)), (1, (3, 1))))


class Refused(unittest.TestCase):
    def refused(self, program, stand, hand, gift, word):
        with self.assertRaises(NoGo) as caught:
            stays(self, gone, program, stand, hand, gift)
        same_kind(self, caught.exception.word, word)
        self.assertIsInstance(caught.exception, LeastError)

    def test_no_hands_number(self):
        program = program_of((("clock", "x"),), (("get", "x", "b"),))
        for hand in odd_things() + [2, 3, -2, "0", (0,), [0], {0: 0}, 10 ** 39]:
            if type(hand) is not int or hand not in (0, 1):
                for gift in (None, 0, [], "gift"):
                    self.refused(program, first_stand(program), hand, gift, "hand")

    def test_just_its_own_hands(self):
        for many in (1, 2, 3, 4):
            program = program_of(*[(("take", "l"),)] * many)
            for hand in range(many):
                self.assertEqual(gone(program, first_stand(program), hand, None)[1], ("take", "l", None, None))
            self.refused(program, first_stand(program), many, None, "hand")
            self.refused(program, first_stand(program), -1, None, "hand")

    def test_at_its_end(self):
        program = program_of((), (("clock", "x"),))
        for gift in odd_things():
            self.refused(program, first_stand(program), 0, gift, "end")
            self.refused(program, stand_behind(program, (1, 0)), 1, gift, "end")

    def test_a_lock_that_somebody_holds(self):
        program = program_of((("take", "l"), ("clock", "x")), (("take", "l"),))
        for gift in odd_things():
            self.refused(program, stand_behind(program, 0), 1, gift, "lock")
            self.refused(program, stand_behind(program, 1), 0, gift, "lock")

    def test_no_letter(self):
        program = program_of((("fetch", "x", "n"),), (("send", "o", N1), ("send", "n", N1)))
        for gift in odd_things():
            self.refused(program, first_stand(program), 0, gift, "letter")
            self.refused(program, stand_behind(program, 1), 0, gift, "letter")
        self.assertEqual(gone(program, stand_behind(program, 1, 1), 0, None)[1], ("fetch", "n", 1, 0))

    def test_gifts_of_those_that_take_none(self):
        for row in (("get", "x", "b"), ("put", "b", X), ("take", "l"), ("send", "n", X), ("say", "d", X)):
            program = program_of((row,))
            for gift in odd_things():
                if gift is not None:
                    self.refused(program, first_stand(program), 0, gift, "gift")
            self.assertEqual(gone(program, first_stand(program), 0, None)[1][0], row[0])
        program = program_of((("take", "l"), ("free", "l")), (("send", "n", N1), ("fetch", "x", "n")))
        for hand in (0, 1):
            self.assertEqual(len(gone(program, stand_behind(program, hand), hand, None)), 2)
            for gift in odd_things():
                if gift is not None:
                    self.refused(program, stand_behind(program, hand), hand, gift, "gift")

    def test_gifts_of_those_that_take_one(self):
        for row, most in ((("clock", "x"), 999), (("hear", "x", "d"), 999), (("lot", "x", 2), 1), (("lot", "x", 6), 5),
                          (("lot", "x", 999), 998), (("lot", "x", 1000), 999)):
            program = program_of((row,))
            stand = first_stand(program)
            for gift in (0, 1, most):
                told = gone(program, stand, 0, gift)
                same_kind(self, told[1][2], gift)
                same_kind(self, told[0][1][0][1], (("x", gift),) if gift else ())
            for gift in odd_things() + [most + 1, (1,), [1], "1", True]:
                if type(gift) is not int or not 0 <= gift <= most:
                    self.refused(program, stand, 0, gift, "gift")

    def test_two_are_due_at_once(self):
        program = program_of((), (("take", "l"),), (("take", "l"),), (("fetch", "x", "n"),))
        stand = stand_behind(program, 1)
        self.refused(program, stand, 4, 1, "hand")
        self.refused(program, stand, None, None, "hand")
        self.refused(program, stand, 0, 1, "end")
        self.refused(program, stand, 1, 1, "end")
        self.refused(program, stand, 2, 1, "lock")
        self.refused(program, stand, 3, 1, "letter")

    def test_what_is_refused_changes_nothing(self):
        program = program_of((("clock", "x"),))
        stand = first_stand(program)
        self.refused(program, stand, 0, None, "gift")
        self.refused(program, stand, 1, None, "hand")
        same_kind(self, gone(program, stand, 0, 3)[0], ((1,), ((1, (("x", 3),), ()),)) + stand[2:])
        same_kind(self, stand, first_stand(program))
        self.assertIs(may_go(program, stand, 0), True)

    def test_deep_things(self):
        program = program_of((("clock", "x"),))
        deep = nested(lambda thing: [thing, {"a": (thing,)}], 0, 5)
        self.refused(program, first_stand(program), deep, deep, "hand")
        self.refused(program, first_stand(program), 0, deep, "gift")


if __name__ == "__main__":
    unittest.main()
