import random
import unittest

from helper import N0, N1, X, Y, nested, odd_things, program_of, random_program, random_sum, same_kind, stays
from leastrecord.seats import course, first_seat, goes_so, rested, seat_behind, touch_of
from leastrecord.sums import worth

COUNT_DOWN = ("let", "i", ("sub", ("of", "i"), N1))


def counting(start, first, more=()):
    """Rows that count i down from start, first being the place of the first of them."""
    return more + (("let", "i", ("num", start)), COUNT_DOWN, ("leap", first + len(more) + 1, ("of", "i")))


class Rested(unittest.TestCase):
    def asked(self, rows, seat, told):
        same_kind(self, stays(self, rested, program_of(rows), 0, seat), told)

    def first(self, rows, told):
        same_kind(self, stays(self, first_seat, program_of(rows), 0), told)
        self.asked(rows, (0, (), ()), told)

    def test_a_touch_or_the_end_is_rested_already(self):
        for row in (("get", "x", "b"), ("put", "b", X), ("take", "l"), ("send", "n", X), ("fetch", "x", "n"), ("say", "d", X),
                    ("clock", "x"), ("lot", "x", 6), ("hear", "x", "d")):
            self.first((row,), (0, (), ()))
            self.asked((row,), (0, (("x", 3),), ("m",)), (0, (("x", 3),), ("m",)))
            self.asked((row,), (1, (("x", 3),), ("m",)), (1, (("x", 3),), ("m",)))
        self.first((), (0, (), ()))

    def test_lets_lay_worths_into_pockets(self):
        self.first((("let", "x", ("num", 7)),), (1, (("x", 7),), ()))
        self.first((("let", "x", ("num", 7)), ("let", "y", ("add", X, X)), ("let", "x", ("add", X, Y))),
                   (3, (("x", 21), ("y", 14)), ()))
        self.asked((("let", "x", ("sub", X, Y)), ("clock", "x")), (0, (("x", 2), ("y", 3)), ()), (1, (("x", 999), ("y", 3)), ()))

    def test_pockets_are_rising_and_none_holds_0(self):
        self.first((("let", "z", N1), ("let", "a", N1), ("let", "m", N1)), (3, (("a", 1), ("m", 1), ("z", 1)), ()))
        self.first((("let", "x", N0),), (1, (), ()))
        self.first((("let", "x", N1), ("let", "x", ("sub", X, X))), (2, (), ()))
        self.asked((("let", "m", N0),), (0, (("a", 1), ("m", 1), ("z", 1)), ()), (1, (("a", 1), ("z", 1)), ()))
        self.asked((("let", "m", ("num", 5)),), (0, (("a", 1), ("m", 9), ("z", 1)), ()), (1, (("a", 1), ("m", 5), ("z", 1)), ()))
        self.asked((("let", "b", ("num", 5)),), (0, (("a", 9), ("c", 1)), ()), (1, (("a", 9), ("b", 5), ("c", 1)), ()))

    def test_leaps(self):
        rows = (("leap", 3, X), ("let", "y", N1), ("clock", "p"), ("let", "y", ("num", 2)), ("clock", "q"))
        self.asked(rows, (0, (), ()), (2, (("y", 1),), ()))
        self.asked(rows, (0, (("x", 1),), ()), (4, (("x", 1), ("y", 2)), ()))
        self.asked(rows, (0, (("x", 999),), ()), (4, (("x", 999), ("y", 2)), ()))
        self.asked((("leap", 1, N1),), (0, (), ()), (1, (), ()))
        self.asked((("clock", "p"), ("leap", 0, N1)), (1, (), ()), (0, (), ()))
        self.asked((("clock", "p"), ("leap", 0, N0)), (1, (), ()), (2, (), ()))
        self.asked((("leap", 2, N1), ("clock", "p")), (0, (), ()), (2, (), ()))

    def test_a_take_of_a_lock_held_by_the_hand_is_an_own_row(self):
        rows = (("take", "l"), ("clock", "x"))
        self.asked(rows, (0, (), ()), (0, (), ()))
        self.asked(rows, (0, (), ("m",)), (0, (), ("m",)))
        self.asked(rows, (0, (), ("l",)), (1, (), ("l",)))
        self.asked(rows, (0, (("x", 4),), ("l", "m")), (1, (("x", 4),), ("l", "m")))
        self.asked((("take", "l"),) * 3, (0, (), ("l",)), (3, (), ("l",)))

    def test_a_free_of_a_lock_not_held_is_an_own_row(self):
        rows = (("free", "l"), ("clock", "x"))
        self.asked(rows, (0, (), ()), (1, (), ()))
        self.asked(rows, (0, (), ("m",)), (1, (), ("m",)))
        self.asked(rows, (0, (), ("l",)), (0, (), ("l",)))
        self.asked(rows, (0, (), ("l", "m")), (0, (), ("l", "m")))

    def test_a_pocket_called_like_a_lock_is_no_lock(self):
        self.asked((("take", "l"), ("free", "l")), (0, (("l", 1),), ()), (0, (("l", 1),), ()))
        self.asked((("free", "l"), ("take", "l")), (0, (("l", 1),), ()), (1, (("l", 1),), ()))

    def test_199_200_and_201_own_rows_from_row_0(self):
        touch = (("clock", "x"),)
        rows = counting(99, 0) + touch  # 1 + 2 * 99 own rows
        self.first(rows, (3, (), ()))
        rows = counting(99, 0, (("let", "y", N1),)) + touch
        self.first(rows, (4, (("y", 1),), ()))
        rows = counting(100, 0) + touch
        self.first(rows, (4, (), ()))
        rows = counting(99, 0, (("let", "y", N1),)) + (("let", "z", N1),) + touch
        self.first(rows, (6, (("y", 1),), ()))

    def test_200_own_rows_to_the_end(self):
        self.first(counting(99, 0), (3, (), ()))
        self.first(counting(99, 0, (("let", "y", N1),)), (4, (("y", 1),), ()))
        self.first(counting(99, 0, (("let", "y", N1),)) + (("let", "z", N1),), (5, (("y", 1),), ()))

    def test_what_goes_on_for_ever_stops_with_its_pockets_by_then(self):
        self.first((("leap", 0, N1),), (1, (), ()))
        self.first((("let", "x", ("add", X, N1)), ("leap", 0, N1), ("clock", "x")), (3, (("x", 100),), ()))
        self.first((("let", "x", ("add", X, N1)), ("let", "y", X), ("leap", 0, N1)), (3, (("x", 67), ("y", 67)), ()))
        self.asked((("take", "l"), ("leap", 0, N1), ("clock", "x")), (0, (), ("l",)), (3, (), ("l",)))
        self.asked((("free", "l"), ("leap", 0, N1), ("clock", "x")), (0, (), ("m",)), (3, (), ("m",)))

    def test_takes_and_frees_count_as_own_rows(self):
        rows = (("let", "i", ("num", 50)), ("take", "l"), ("free", "m"), COUNT_DOWN, ("leap", 1, ("of", "i")), ("clock", "x"))
        self.asked(rows, (0, (), ("l",)), (6, (), ("l",)))
        rows = (("let", "i", ("num", 49)),) + rows[1:]
        self.asked(rows, (0, (), ("l",)), (5, (), ("l",)))

    def test_each_hand_by_its_own_rows(self):
        program = program_of((("let", "x", N1),), (("clock", "x"),), (("let", "y", ("num", 2)), ("take", "l")))
        for hand, told in enumerate(((1, (("x", 1),), ()), (0, (), ()), (1, (("y", 2),), ()))):
            same_kind(self, first_seat(program, hand), told)

    def test_a_rested_seat_is_rested(self):
        chance = random.Random(14)
        for turn in range(100):
            program = random_program(chance)
            for hand in range(len(program[4])):
                seat = first_seat(program, hand)
                same_kind(self, rested(program, hand, seat), seat)


class Touches(unittest.TestCase):
    pockets = (("x", 4), ("y", 7))

    def touch(self, row, told):
        program = program_of((), (("let", "x", N1), row))
        same_kind(self, stays(self, touch_of, program, 1, (1, self.pockets, ("l",) if row[0] == "free" else ())), told)
        self.assertIsNone(touch_of(program, 1, (2, self.pockets, ())))
        self.assertIsNone(touch_of(program, 0, (0, (), ())))

    def test_each_touch(self):
        self.touch(("get", "x", "c"), ("get", "c", None))
        self.touch(("put", "c", ("add", X, Y)), ("put", "c", 11))
        self.touch(("take", "m"), ("take", "m", None))
        self.touch(("free", "l"), ("free", "l", None))
        self.touch(("send", "o", ("sub", X, Y)), ("send", "o", 997))
        self.touch(("fetch", "x", "o"), ("fetch", "o", None))
        self.touch(("say", "e", ("same", X, Y)), ("say", "e", 0))
        self.touch(("clock", "x"), ("clock", "", None))
        self.touch(("lot", "x", 1000), ("lot", "", 1000))
        self.touch(("lot", "x", 2), ("lot", "", 2))
        self.touch(("hear", "x", "e"), ("hear", "e", None))

    def test_things_called_like_pockets(self):
        self.touch(("get", "n", "b"), ("get", "b", None))
        self.touch(("fetch", "b", "n"), ("fetch", "n", None))
        self.touch(("clock", "b"), ("clock", "", None))

    def behind(self, row, value, seat, told, more=()):
        same_kind(self, stays(self, seat_behind, program_of((row,) + more), 0, seat, value), told)

    def test_what_came_is_in_the_pocket(self):
        for row in (("get", "x", "b"), ("fetch", "x", "n"), ("clock", "x"), ("lot", "x", 1000), ("hear", "x", "d")):
            self.behind(row, 9, (0, (), ()), (1, (("x", 9),), ()))
            self.behind(row, 9, (0, self.pockets, ("l",)), (1, (("x", 9), ("y", 7)), ("l",)))
            self.behind(row, 0, (0, self.pockets, ()), (1, (("y", 7),), ()))
            self.behind(row, 0, (0, (), ()), (1, (), ()))
            self.behind(row, 999, (0, (("w", 1), ("y", 1)), ()), (1, (("w", 1), ("x", 999), ("y", 1)), ()))

    def test_what_came_of_others_is_not_looked_at(self):
        for value in (None, 5):
            for row in (("put", "b", X), ("send", "n", X), ("say", "d", X)):
                self.behind(row, value, (0, self.pockets, ("l",)), (1, self.pockets, ("l",)))
            self.behind(("take", "l"), value, (0, self.pockets, ()), (1, self.pockets, ("l",)))
            self.behind(("free", "l"), value, (0, self.pockets, ("l",)), (1, self.pockets, ()))

    def test_locks_held_are_rising(self):
        self.behind(("take", "l"), None, (0, (), ("m",)), (1, (), ("l", "m")))
        self.behind(("take", "m"), None, (0, (), ("l",)), (1, (), ("l", "m")))
        self.behind(("free", "l"), None, (0, (), ("l", "m")), (1, (), ("m",)))
        self.behind(("free", "m"), None, (0, (), ("l", "m")), (1, (), ("l",)))
        program = program_of((("take", "qb"),), locks=("qc", "qb", "qa"))
        same_kind(self, seat_behind(program, 0, (0, (), ("qa", "qc")), None), (1, (), ("qa", "qb", "qc")))

    def test_it_goes_on_to_a_rested_seat(self):
        self.behind(("clock", "x"), 3, (0, (), ()), (3, (("x", 3), ("y", 6)), ()),
                    (("let", "y", ("add", X, X)), ("free", "l"), ("clock", "z")))
        self.behind(("take", "l"), None, (0, (), ()), (2, (), ("l",)), (("take", "l"), ("free", "l")))
        self.behind(("free", "l"), None, (0, (), ("l",)), (2, (), ()), (("free", "l"), ("take", "l")))
        self.behind(("hear", "x", "d"), 0, (0, (("x", 3),), ()), (2, (), ()), (("leap", 0, X),))
        self.behind(("hear", "x", "d"), 2, (0, (("x", 3),), ()), (0, (("x", 2),), ()), (("leap", 0, X),))

    def test_199_200_and_201_own_rows_behind_a_touch(self):
        last = (("clock", "x"),)
        one = (("let", "y", N1),)
        self.behind(("take", "m"), None, (0, (), ()), (4, (), ("m",)), counting(99, 1) + last)
        self.behind(("take", "m"), None, (0, (), ()), (5, (("y", 1),), ("m",)), counting(99, 1, one) + last)
        self.behind(("take", "m"), None, (0, (), ()), (5, (), ("m",)), counting(100, 1) + last)
        self.behind(("take", "m"), None, (0, (), ()), (7, (("y", 1),), ("m",)), counting(99, 1, one) + (("let", "z", N1),) + last)

    def test_own_rows_are_counted_anew_behind_each_touch(self):
        rows = counting(90, 0) + (("clock", "x"),) + counting(90, 4) + (("clock", "x"),)
        program = program_of(rows)
        seat = first_seat(program, 0)
        same_kind(self, seat, (3, (), ()))
        same_kind(self, seat_behind(program, 0, seat, 1), (7, (("x", 1),), ()))

    def test_a_hand_with_other_rows_than_the_first_ones(self):
        program = program_of((("clock", "x"),), (("take", "l"), ("clock", "y")))
        same_kind(self, seat_behind(program, 1, (0, (), ()), None), (1, (), ("l",)))
        same_kind(self, seat_behind(program, 1, (1, (), ("l",)), 5), (2, (("y", 5),), ("l",)))


class Courses(unittest.TestCase):
    def asked(self, rows, values, touches, seat, start=None):
        program = program_of(rows)
        begin = first_seat(program, 0) if start is None else start
        same_kind(self, stays(self, course, program, 0, begin, values), (touches, seat))

    every = (("get", "x", "b"), ("put", "c", ("add", X, N1)), ("take", "l"), ("let", "y", ("num", 3)), ("free", "l"),
             ("send", "n", Y), ("fetch", "x", "o"), ("say", "d", X), ("clock", "y"), ("lot", "z", 6), ("hear", "x", "e"))

    def test_every_touch_with_what_came(self):
        self.asked(self.every, (10, 20, 30, 5, 40), (
            ("get", "b", 10), ("put", "c", 11), ("take", "l", None), ("free", "l", None), ("send", "n", 3), ("fetch", "o", 20),
            ("say", "d", 20), ("clock", "", 30), ("lot", "", 5), ("hear", "e", 40),
        ), (11, (("x", 40), ("y", 30), ("z", 5)), ()))

    def test_it_stops_for_lack_of_a_value(self):
        told = (("get", "b", 0), ("put", "c", 1), ("take", "l", None), ("free", "l", None), ("send", "n", 3))
        self.asked(self.every, (), (), (0, (), ()))
        self.asked(self.every, (0,), told, (6, (("y", 3),), ()))
        self.asked(self.every, (0, 7), told + (("fetch", "o", 7), ("say", "d", 7)), (8, (("x", 7), ("y", 3)), ()))
        for row in (("get", "x", "b"), ("fetch", "x", "n"), ("clock", "x"), ("lot", "x", 2), ("hear", "x", "d")):
            self.asked((("take", "l"), row), (), (("take", "l", None),), (1, (), ("l",)))
            self.asked((("take", "l"), row), (1,), (("take", "l", None), (row[0], row[2] if row[0] in ("get", "fetch", "hear")
                                                                          else "", 1)), (2, (("x", 1),), ("l",)))

    def test_it_stops_at_the_end_with_values_left(self):
        self.asked((("clock", "x"),), (1, 2, 3), (("clock", "", 1),), (1, (("x", 1),), ()))
        self.asked((), (1, 2, 3), (), (0, (), ()))
        self.asked((("put", "b", N1),), (), (("put", "b", 1),), (1, (), ()))

    def test_it_stops_behind_sixty_touches(self):
        loop = (("put", "b", X), ("let", "x", ("add", X, N1)), ("leap", 0, N1))
        self.asked(loop, (), tuple(("put", "b", number) for number in range(60)), (0, (("x", 60),), ()))
        loop = (("clock", "x"), ("leap", 0, N1))
        self.asked(loop, tuple(range(60)), tuple(("clock", "", number) for number in range(60)), (0, (("x", 59),), ()))
        self.asked(loop, tuple(range(59)), tuple(("clock", "", number) for number in range(59)), (0, (("x", 58),), ()))
        rows = (("let", "i", ("num", 30)), ("put", "b", N1), ("say", "d", N1), COUNT_DOWN, ("leap", 1, ("of", "i")))
        self.asked(rows, (), (("put", "b", 1), ("say", "d", 1)) * 30, (5, (), ()))

    def test_from_another_seat(self):
        self.asked(self.every, (4,), (("send", "n", 9), ("fetch", "o", 4), ("say", "d", 4)), (8, (("x", 4), ("y", 9)), ("m",)),
                   start=(5, (("y", 9),), ("m",)))

    def test_values_choose_the_way(self):
        rows = (("get", "x", "b"), ("leap", 3, X), ("say", "d", N0), ("say", "e", N1))
        self.asked(rows, (0,), (("get", "b", 0), ("say", "d", 0), ("say", "e", 1)), (4, (), ()))
        self.asked(rows, (5,), (("get", "b", 5), ("say", "e", 1)), (4, (("x", 5),), ()))

    def test_a_course_goes_step_by_step(self):
        chance = random.Random(16)
        for turn in range(100):
            program = random_program(chance)
            hand = chance.randrange(len(program[4]))
            values = tuple(chance.randrange(2) for number in range(chance.randrange(61)))
            seat = first_seat(program, hand)
            told = course(program, hand, seat, values)
            left = list(values)
            for kind, thing, value in told[0]:
                touch = touch_of(program, hand, seat)
                same_kind(self, touch[:2], (kind, thing))
                if kind in ("get", "fetch", "clock", "lot", "hear"):
                    self.assertEqual(value, left.pop(0))
                else:
                    same_kind(self, value, touch[2])
                seat = seat_behind(program, hand, seat, value)
            same_kind(self, told[1], seat)
            last = touch_of(program, hand, seat)
            self.assertTrue(len(told[0]) == 60 or last is None or left == [] and last[0] in
                            ("get", "fetch", "clock", "lot", "hear"))


class GoesSo(unittest.TestCase):
    def asked(self, rows, things, told):
        program = program_of(rows)
        same_kind(self, stays(self, goes_so, program, 0, first_seat(program, 0), things), told)

    def one(self, row, thing, fits):
        """The thing, with a look behind it that would fit."""
        rows = (("let", "x", ("num", 4)), row, ("say", "e", N1))
        self.asked(rows, (thing, ("say", "e", 1, None)), 2 if fits else 0)

    def values(self, row, thing, good):
        kind = row[0]
        for value in (0, 1, 2, 3, 4, 5, 500, 998, 999):
            self.one(row, (kind, thing, value, None), value in good)
        for value in odd_things():
            if not (type(value) is int and 0 <= value <= 999):
                self.one(row, (kind, thing, value, None), value is None and good == [None])

    def test_values_of_each_kind(self):
        every = list(range(1000))
        self.values(("get", "x", "b"), "b", every)
        self.values(("fetch", "x", "n"), "n", every)
        self.values(("clock", "x"), "", every)
        self.values(("hear", "x", "d"), "d", every)
        self.values(("lot", "x", 2), "", [0, 1])
        self.values(("lot", "x", 999), "", list(range(999)))
        self.values(("lot", "x", 1000), "", every)
        self.values(("put", "b", X), "b", [4])
        self.values(("put", "b", N1), "b", [1])
        self.values(("send", "n", ("add", X, N1)), "n", [5])
        self.values(("send", "n", N0), "n", [0])
        self.values(("say", "d", ("sub", X, N1)), "d", [3])
        self.values(("take", "l"), "l", [None])

    def test_free_tells_none(self):
        rows = (("take", "l"), ("free", "l"))
        for value in [None, 0, False, (), "", 1]:
            self.asked(rows, (("take", "l", None, None), ("free", "l", value, None)), 2 if value is None else 1)

    def test_kinds_and_things_bent(self):
        for row, thing, value in ((("get", "x", "b"), "b", 1), (("put", "b", X), "b", 4), (("take", "l"), "l", None),
                                  (("send", "n", X), "n", 4), (("fetch", "x", "n"), "n", 1), (("say", "d", X), "d", 4),
                                  (("clock", "x"), "", 1), (("lot", "x", 6), "", 1), (("hear", "x", "d"), "d", 1)):
            self.one(row, (row[0], thing, value, None), True)
            for kind in ["get", "put", "take", "free", "send", "fetch", "say", "clock", "lot", "hear"] + odd_things():
                if kind != row[0]:
                    self.one(row, (kind, thing, value, None), False)
            for other in ["b", "c", "l", "m", "n", "o", "d", "e", "x"] + odd_things():
                if other != thing:
                    self.one(row, (row[0], other, value, None), False)

    def test_the_fourth_is_not_looked_at(self):
        for mark in odd_things() + [(0, 0), "mark"]:
            self.one(("get", "x", "b"), ("get", "b", 1, mark), True)
            self.one(("put", "b", X), ("put", "b", 4, mark), True)
            self.one(("take", "l"), ("take", "l", None, mark), True)
            self.one(("clock", "x"), ("clock", "", 1, mark), True)

    def test_things_of_other_shapes(self):
        look = ("get", "b", 1, None)
        for thing in odd_things() + [look[:3], look + (None,), list(look), (look,), look[:2], "getb"]:
            self.one(("get", "x", "b"), thing, False)

    def test_values_told_ahead_lead_the_way(self):
        rows = (("get", "x", "b"), ("put", "b", ("add", X, N1)), ("leap", 4, X), ("say", "d", N0), ("say", "e", N1))
        self.asked(rows, (("get", "b", 0, 9), ("put", "b", 1, 9), ("say", "d", 0, 9), ("say", "e", 1, 9)), 4)
        self.asked(rows, (("get", "b", 3, 9), ("put", "b", 4, 9), ("say", "e", 1, 9)), 3)
        self.asked(rows, (("get", "b", 3, 9), ("put", "b", 1, 9), ("say", "e", 1, 9)), 1)
        self.asked(rows, (("get", "b", 3, 9), ("put", "b", 4, 9), ("say", "d", 0, 9)), 2)

    def test_at_the_end_none_is_one(self):
        self.asked((), (("get", "b", 1, None),), 0)
        self.asked((("clock", "x"),), (("clock", "", 1, None), ("clock", "", 1, None)), 1)
        self.asked((("clock", "x"),), (("clock", "", 1, None), None), 1)

    def test_no_things(self):
        self.asked((), (), 0)
        self.asked((("clock", "x"),), (), 0)

    def test_the_first_that_is_none_ends_it(self):
        loop = (("clock", "x"), ("leap", 0, N1))
        good = ("clock", "", 5, None)
        for many in (0, 1, 2, 59, 60, 61, 99):
            self.asked(loop, (good,) * many, many)
            self.asked(loop, (good,) * many + (None,) + (good,) * 3, many)

    def test_from_another_seat_and_hand(self):
        program = program_of((("clock", "x"),), (("clock", "x"), ("say", "d", X)))
        self.assertEqual(goes_so(program, 1, (1, (("x", 8),), ()), (("say", "d", 8, 0),)), 1)
        self.assertEqual(goes_so(program, 1, (1, (("x", 8),), ()), (("say", "d", 7, 0),)), 0)

    def test_courses_are_looks_that_the_rows_give(self):
        chance = random.Random(17)
        for turn in range(100):
            program = random_program(chance)
            hand = chance.randrange(len(program[4]))
            seat = first_seat(program, hand)
            touches = course(program, hand, seat, tuple(chance.randrange(2) for number in range(60)))[0]
            looks = tuple(touch + (chance.choice([None, 0, (0, 1), "any"]),) for touch in touches)
            self.assertEqual(goes_so(program, hand, seat, looks), len(looks))
            if looks:
                bent = chance.randrange(len(looks))
                look = looks[bent][:2] + (1000,) + looks[bent][3:]
                self.assertEqual(goes_so(program, hand, seat, looks[:bent] + (look,) + looks[bent + 1:]), bent)


class OwnRows(unittest.TestCase):
    def test_a_let_lays_what_its_sum_is_worth(self):
        chance = random.Random(10)
        for turn in range(200):
            tree = random_sum(chance, ["x", "y", "z"], 12)
            pockets = (("x", chance.randrange(1, 1000)), ("y", 1))
            seat = rested(program_of((("let", "p", tree),)), 0, (0, pockets, ()))
            self.assertEqual(dict(seat[1]).get("p", 0), worth(tree, pockets))
            self.assertNotIn(0, [value for name, value in seat[1]])

    def test_many_rows_of_lets(self):
        rows = tuple(("let", name, N1) for name in "zyxwvutsrqponmlkjihgfedcba")
        self.assertEqual(first_seat(program_of(rows), 0), (26, tuple((name, 1) for name in "abcdefghijklmnopqrstuvwxyz"), ()))
        deep = nested(lambda tree: ("add", tree, N1), N1, 4)
        self.assertEqual(first_seat(program_of((("let", "x", deep),)), 0), (1, (("x", 5),), ()))


if __name__ == "__main__":
    unittest.main()
