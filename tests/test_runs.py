import random
import unittest

from helper import N0, N1, X, Y, odd_things, program_of, random_program, random_run, same_kind, stand_behind, stays
from leastrecord.errors import LeastError, NoRun
from leastrecord.runs import history, parted, tables_of, walked
from leastrecord.seats import course, first_seat, goes_so
from leastrecord.stands import first_stand, is_stuck
from leastrecord.sums import worth

LOOP = program_of((("clock", "x"), ("put", "b", X), ("leap", 0, N1)), (("get", "y", "b"), ("leap", 0, N1)))


class Model:
    """Another telling of how hands go, with things that change: no code of the package but the worth of sums."""

    def __init__(self, program):
        self.rows = [rows for name, rows in program[4]]
        self.at = [0] * len(self.rows)
        self.pockets = [{} for rows in self.rows]
        self.made = [0] * len(self.rows)
        self.boxes = {name: (value, None) for name, value in program[0]}
        self.holders = {}
        self.freed = {}
        self.letters = {name: [] for name in program[2]}
        self.fetched = {name: 0 for name in program[2]}
        self.said = {name: 0 for name in program[3]}
        self.order = program
        for hand in range(len(self.rows)):
            self.rest(hand)

    def sum(self, hand, tree):
        return worth(tree, tuple(self.pockets[hand].items()))

    def rest(self, hand):
        for turn in range(201):
            if self.at[hand] == len(self.rows[hand]):
                return
            row = self.rows[hand][self.at[hand]]
            mine = row[0] in ("take", "free") and self.holders.get(row[1]) == hand
            if row[0] not in ("let", "leap") and not (row[0] == "take" and mine or row[0] == "free" and not mine):
                return
            if turn == 200:
                self.at[hand] = len(self.rows[hand])
                return
            if row[0] == "let":
                self.pockets[hand][row[1]] = self.sum(hand, row[2])
            leaps = row[0] == "leap" and self.sum(hand, row[2]) != 0
            self.at[hand] = row[1] if leaps else self.at[hand] + 1

    def wait(self, hand):
        if self.at[hand] == len(self.rows[hand]):
            return "end"
        row = self.rows[hand][self.at[hand]]
        if row[0] == "take" and self.holders.get(row[1]) is not None:
            return ("lock", row[1], self.holders[row[1]])
        if row[0] == "fetch" and self.fetched[row[2]] == len(self.letters[row[2]]):
            return ("letter", row[2])
        return None

    def go(self, hand, gift):
        row = self.rows[hand][self.at[hand]]
        event = (hand, self.made[hand])
        kind = row[0]
        if kind in ("clock", "lot"):
            look = (kind, "", gift, None)
        elif kind == "hear":
            look = (kind, row[2], gift, None)
        elif kind == "get":
            look = (kind, row[2]) + self.boxes[row[2]]
        elif kind == "put":
            look = (kind, row[1], self.sum(hand, row[2]), self.boxes[row[1]][1])
            self.boxes[row[1]] = (look[2], event)
        elif kind == "take":
            look = (kind, row[1], None, self.freed.get(row[1]))
            self.holders[row[1]] = hand
        elif kind == "free":
            look = (kind, row[1], None, None)
            self.holders[row[1]] = None
            self.freed[row[1]] = event
        elif kind == "send":
            look = (kind, row[1], self.sum(hand, row[2]), len(self.letters[row[1]]))
            self.letters[row[1]].append(look[2])
        elif kind == "fetch":
            look = (kind, row[2], self.letters[row[2]][self.fetched[row[2]]], self.fetched[row[2]])
            self.fetched[row[2]] += 1
        else:
            look = (kind, row[1], self.sum(hand, row[2]), self.said[row[1]])
            self.said[row[1]] += 1
        if kind in ("get", "fetch", "clock", "lot", "hear"):
            self.pockets[hand][row[1]] = look[2]
        self.made[hand] += 1
        self.at[hand] += 1
        self.rest(hand)
        return look

    def stand(self):
        boxes, locks, lanes, doors, hands = self.order
        seats = []
        for hand in range(len(hands)):
            pockets = sorted((name, value) for name, value in self.pockets[hand].items() if value)
            held = sorted(name for name in locks if self.holders.get(name) == hand)
            seats.append((self.at[hand], tuple(pockets), tuple(held)))
        return (
            tuple(self.made), tuple(seats), tuple(self.boxes[name] for name, value in boxes),
            tuple((self.holders.get(name), self.freed.get(name)) for name in locks),
            tuple((len(self.letters[name]), self.fetched[name], tuple(self.letters[name][self.fetched[name]:])) for name in lanes),
            tuple(self.said[name] for name in doors))


class Runs(unittest.TestCase):
    def refused(self, ask, place, word):
        with self.assertRaises(NoRun) as caught:
            ask()
        same_kind(self, (caught.exception.place, caught.exception.word), (place, word))
        self.assertIsInstance(caught.exception, LeastError)

    def all_refuse(self, program, stand, thing, place, word):
        good = ()
        self.refused(lambda: stays(self, walked, program, stand, thing), place, word)
        self.refused(lambda: stays(self, tables_of, program, stand, thing), place, word)
        self.refused(lambda: stays(self, parted, program, stand, thing, good), place, word)
        self.refused(lambda: stays(self, parted, program, stand, good, thing), place, word)
        for name in ("b", "zz", ""):
            self.refused(lambda: stays(self, history, program, stand, thing, name), place, word)


class Walked(Runs):
    def test_no_steps(self):
        stand = first_stand(LOOP)
        same_kind(self, stays(self, walked, LOOP, stand, ()), (stand, ()))

    def test_steps_in_their_order(self):
        stand = first_stand(LOOP)
        run = ((0, 7), (1, None), (0, None), (1, None), (1, None), (0, 8))
        same_kind(self, stays(self, walked, LOOP, stand, run), (
            ((3, 3), ((1, (("x", 8),), ()), (0, (("y", 7),), ())), ((7, (0, 1)), (0, None)), ((None, None),) * 2,
             ((0, 0, ()),) * 2, (0, 0)),
            ((0, ("clock", "", 7, None)), (1, ("get", "b", 5, None)), (0, ("put", "b", 7, None)), (1, ("get", "b", 7, (0, 1))),
             (1, ("get", "b", 7, (0, 1))), (0, ("clock", "", 8, None)))))

    def test_from_a_later_stand(self):
        stand = stand_behind(LOOP, (0, 7), 0, (0, 9))
        same_kind(self, stays(self, walked, LOOP, stand, ((1, None), (0, None), (1, None)))[1],
                  ((1, ("get", "b", 7, (0, 1))), (0, ("put", "b", 9, (0, 1))), (1, ("get", "b", 9, (0, 3)))))

    def test_sixty_steps_and_sixty_one(self):
        stand = first_stand(LOOP)
        for many in (59, 60):
            told = walked(LOOP, stand, ((1, None),) * many)
            same_kind(self, (told[0][0], len(told[1])), ((0, many), many))
        self.all_refuse(LOOP, stand, ((1, None),) * 61, -1, "shape")
        self.all_refuse(LOOP, stand, (None,) * 61, -1, "shape")
        self.all_refuse(LOOP, stand, ((1, None),) * 99, -1, "shape")

    def test_sixty_steps_behind_sixty_steps(self):
        stand = walked(LOOP, first_stand(LOOP), ((1, None),) * 60)[0]
        same_kind(self, walked(LOOP, stand, ((1, None),) * 60)[0][0], (0, 120))

    def test_things_that_are_no_tuples(self):
        for thing in odd_things() + [[(1, None)], [], "", {(1, None): 1}]:
            if type(thing) is not tuple:
                self.all_refuse(LOOP, first_stand(LOOP), thing, -1, "shape")

    def test_tuples_of_other_things(self):
        for thing in odd_things():
            if type(thing) is tuple and thing != ():
                odd = thing[0]
                pair = type(odd) is tuple and len(odd) == 2
                self.all_refuse(LOOP, first_stand(LOOP), thing, 0, "hand" if pair else "shape")

    def test_steps_of_other_shapes(self):
        stand = first_stand(LOOP)
        for step in odd_things() + [(1,), (1, None, None), [1, None], "ab", {1: None, 2: None}, ((1, None),), 1]:
            if not (type(step) is tuple and len(step) == 2):
                self.all_refuse(LOOP, stand, (step,), 0, "shape")
                self.all_refuse(LOOP, stand, ((1, None), step, None), 1, "shape")
                self.all_refuse(LOOP, stand, ((1, None),) * 59 + (step,), 59, "shape")

    def test_each_word_at_its_place(self):
        program = program_of((("take", "l"), ("clock", "x")), (("take", "l"),), (("fetch", "x", "n"),))
        stand = first_stand(program)
        for step, word in (((3, None), "hand"), ((None, None), "hand"), ((True, None), "hand"), (([0], 1), "hand"),
                           ((1, None), "lock"), ((1, 5), "lock"), ((2, None), "letter"), ((2, {}), "letter"),
                           ((0, None), "gift"), ((0, 1000), "gift"), ((0, True), "gift"), ((0, [1]), "gift")):
            self.all_refuse(program, stand, ((0, None), step), 1, word)
            self.all_refuse(program, stand, ((0, None), step, None), 1, word)
            self.all_refuse(program, stand_behind(program, 0), (step, (0, None)), 0, word)
        self.all_refuse(program, stand, ((0, None), (0, 4), (0, None)), 2, "end")
        self.all_refuse(program, stand, ((0, 0),), 0, "gift")

    def test_the_first_step_that_can_not_be_done(self):
        stand = first_stand(LOOP)
        self.all_refuse(LOOP, stand, ((1, None), (0, None), None), 1, "gift")
        self.all_refuse(LOOP, stand, (None, (0, None)), 0, "shape")
        self.all_refuse(LOOP, stand, ((0, 1), (1, None), (5, None), (0, 1)), 2, "hand")

    def test_as_another_telling_has_it(self):
        chance = random.Random(23)
        kinds_seen = set()
        for turn in range(300):
            program = random_program(chance)
            model = Model(program)
            stand = first_stand(program)
            same_kind(self, stand, model.stand())
            run = random_run(chance, program, stand, 60)
            behind, touches = walked(program, stand, run)
            for (hand, gift), (maker, look) in zip(run, touches):
                self.assertEqual(model.wait(hand), None)
                self.assertEqual((maker, look), (hand, model.go(hand, gift)))
                kinds_seen.add(look[0])
            self.assertEqual(len(touches), len(run))
            same_kind(self, behind, model.stand())
            stuck = [model.wait(hand) for hand in range(len(program[4]))]
            self.assertEqual(is_stuck(program, behind), None not in stuck and set(stuck) != {"end"})
        self.assertEqual(len(kinds_seen), 10)

    def test_two_pieces_walk_as_one(self):
        chance = random.Random(24)
        for turn in range(60):
            program = random_program(chance)
            stand = first_stand(program)
            run = random_run(chance, program, stand, 40)
            place = chance.randrange(len(run) + 1)
            middle, ahead = walked(program, stand, run[:place])
            end, behind = walked(program, middle, run[place:])
            same_kind(self, walked(program, stand, run), (end, ahead + behind))


class Tables(Runs):
    def test_a_tuple_of_looks_for_each_hand(self):
        program = program_of((("clock", "x"), ("put", "b", X)), (), (("get", "y", "b"),))
        stand = first_stand(program)
        same_kind(self, stays(self, tables_of, program, stand, ((0, 7), (2, None), (0, None))),
                  ((("clock", "", 7, None), ("put", "b", 7, None)), (), (("get", "b", 5, None),)))
        same_kind(self, tables_of(program, stand, ((0, 7), (0, None), (2, None))),
                  ((("clock", "", 7, None), ("put", "b", 7, None)), (), (("get", "b", 7, (0, 1)),)))
        same_kind(self, tables_of(program, stand, ()), ((), (), ()))

    def test_looks_from_a_later_stand_alone(self):
        stand = stand_behind(LOOP, (0, 7), 0)
        same_kind(self, tables_of(LOOP, stand, ((1, None),)), ((), (("get", "b", 7, (0, 1)),)))

    def test_a_hand_goes_by_the_values_that_come_to_it(self):
        chance = random.Random(5)
        for turn in range(100):
            program = random_program(chance)
            stand = first_stand(program)
            run = random_run(chance, program, stand, 60)
            behind = walked(program, stand, run)[0]
            for hand, looks in enumerate(tables_of(program, stand, run)):
                seat = first_seat(program, hand)
                self.assertEqual(goes_so(program, hand, seat, looks), len(looks))
                came = tuple(look[2] for look in looks if look[0] in ("get", "fetch", "clock", "lot", "hear"))
                touches = course(program, hand, seat, came)[0]
                self.assertEqual(touches[:len(looks)], tuple(look[:3] for look in looks))
                self.assertEqual(behind[0][hand], len(looks))


class Parted(Runs):
    def asked(self, program, stand, run, other, told):
        same_kind(self, stays(self, parted, program, stand, run, other), told)
        same_kind(self, stays(self, parted, program, stand, other, run), told)

    def test_runs_that_are_alike(self):
        stand = first_stand(LOOP)
        run = ((0, 7), (1, None), (0, None), (1, None))
        self.asked(LOOP, stand, run, run, None)
        self.asked(LOOP, stand, (), (), None)
        self.asked(LOOP, stand, run, (), None)
        self.asked(LOOP, stand, run, run[:2], None)
        self.asked(LOOP, stand, run, ((1, None), (0, 7), (0, None)), None)
        self.asked(LOOP, stand, ((0, 7),), ((1, None),), None)

    def test_by_a_gift(self):
        stand = first_stand(LOOP)
        self.asked(LOOP, stand, ((0, 7),), ((0, 8),), (0, 0))
        self.asked(LOOP, stand, ((0, 7), (0, None), (0, 1)), ((0, 7), (0, None), (0, 2), (1, None)), (0, 2))

    def test_by_a_value_a_mark_and_a_number(self):
        stand = first_stand(LOOP)
        self.asked(LOOP, stand, ((0, 7), (1, None), (0, None)), ((0, 7), (0, None), (1, None)), (1, 0))
        self.asked(LOOP, stand, ((0, 5), (1, None), (0, None)), ((0, 5), (0, None), (1, None)), (1, 0))
        says = program_of((("say", "d", N1), ("say", "d", N1)), (("say", "d", N1),))
        self.asked(says, first_stand(says), ((0, None), (1, None)), ((1, None), (0, None)), (0, 0))
        self.asked(says, first_stand(says), ((0, None), (1, None)), ((0, None), (0, None), (1, None)), (1, 0))
        locks = program_of((("take", "l"), ("free", "l")), (("take", "l"), ("free", "l")))
        self.asked(locks, first_stand(locks), ((0, None), (0, None), (1, None)), ((1, None), (1, None), (0, None)), (0, 0))

    def test_the_first_by_hand_then_by_number(self):
        program = program_of((("get", "x", "b"), ("get", "x", "c")), (("put", "c", N1), ("clock", "x"), ("clock", "x")))
        stand = first_stand(program)
        one = ((1, None), (1, 3), (1, 4), (0, None), (0, None))
        other = ((0, None), (0, None), (1, None), (1, 5), (1, 6))
        self.asked(program, stand, one, other, (0, 1))
        self.asked(program, stand, one, other[:1] + other[2:], (1, 1))
        self.asked(program, stand, one, ((1, None), (1, 3), (1, 6)), (1, 2))

    def test_numbers_count_since_the_programs_begin(self):
        stand = stand_behind(LOOP, (0, 7), 0, 1, 1, 1, (0, 4))
        self.asked(LOOP, stand, ((1, None), (0, None)), ((0, None), (1, None)), (1, 3))
        self.asked(LOOP, stand, ((0, None), (0, 1)), ((0, None), (0, 2)), (0, 4))

    def test_unlike_ways(self):
        program = program_of((("clock", "x"), ("leap", 3, X), ("get", "x", "b"), ("say", "d", N1)))
        stand = first_stand(program)
        self.asked(program, stand, ((0, 0), (0, None)), ((0, 1), (0, None)), (0, 0))

    def test_the_one_handed_in_first_is_refused_first(self):
        stand = first_stand(LOOP)
        one = ((1, None), (0, None))
        other = ((5, None),)
        self.refused(lambda: parted(LOOP, stand, one, other), 1, "gift")
        self.refused(lambda: parted(LOOP, stand, other, one), 0, "hand")
        self.refused(lambda: parted(LOOP, stand, [], one), -1, "shape")
        self.refused(lambda: parted(LOOP, stand, one, None), 1, "gift")

    def test_as_the_tables_tell(self):
        chance = random.Random(35)
        found = 0
        for turn in range(100):
            program = random_program(chance)
            stand = walked(program, first_stand(program), random_run(chance, program, first_stand(program), 5))[0]
            run = random_run(chance, program, stand, 20)
            other = random_run(chance, program, stand, 20)
            tables = (tables_of(program, stand, run), tables_of(program, stand, other))
            unlike = [(hand, stand[0][hand] + number) for hand in range(len(program[4]))
                      for number in range(min(len(tables[0][hand]), len(tables[1][hand])))
                      if tables[0][hand][number] != tables[1][hand][number]]
            self.asked(program, stand, run, other, min(unlike, default=None))
            found += bool(unlike)
        self.assertGreater(found, 20)


class History(Runs):
    program = program_of(
        (("put", "b", N1), ("take", "l"), ("free", "l"), ("send", "n", ("num", 4)), ("say", "d", N0), ("clock", "b")),
        (("get", "x", "b"), ("take", "l"), ("fetch", "y", "n"), ("hear", "x", "d"), ("say", "d", Y), ("lot", "x", 6)))
    steps = ((1, None), (0, None), (0, None), (0, None), (1, None), (0, None), (1, None), (1, 9), (1, None), (0, None), (0, 3), (1, 5))

    def asked(self, name, told):
        same_kind(self, stays(self, history, self.program, first_stand(self.program), self.steps, name), told)

    def test_each_sort(self):
        self.asked("b", [((1, 0), ("get", "b", 5, None)), ((0, 0), ("put", "b", 1, None))])
        self.asked("l", [((0, 1), ("take", "l", None, None)), ((0, 2), ("free", "l", None, None)), ((1, 1), ("take", "l", None, (0, 2)))])
        self.asked("n", [((0, 3), ("send", "n", 4, 0)), ((1, 2), ("fetch", "n", 4, 0))])
        self.asked("d", [((1, 3), ("hear", "d", 9, None)), ((1, 4), ("say", "d", 4, 0)), ((0, 4), ("say", "d", 0, 1))])

    def test_things_without_touches(self):
        for name in ("c", "m", "o", "e"):
            self.asked(name, [])

    def test_other_texts(self):
        for name in ("", "ha", "hb", "x", "y", "zz", "clock", "lot", "get", "box", "-", "b ", "\n", "B"):
            self.asked(name, [])

    def test_from_a_later_stand(self):
        stand = stand_behind(LOOP, (0, 7), 0, 1, 1)
        same_kind(self, history(LOOP, stand, ((1, None), (0, 3), (0, None), (1, None)), "b"), [
            ((1, 2), ("get", "b", 7, (0, 1))), ((0, 3), ("put", "b", 3, (0, 1))), ((1, 3), ("get", "b", 3, (0, 3)))])
        self.assertEqual(history(LOOP, stand, (), "b"), [])

    def test_what_is_told_is_the_askers_own(self):
        stand = first_stand(self.program)
        told = history(self.program, stand, self.steps, "b")
        again = list(told)
        told.clear()
        self.assertEqual(history(self.program, stand, self.steps, "b"), again)
        none = history(self.program, stand, self.steps, "zz")
        none.append(1)
        self.assertEqual(history(self.program, stand, self.steps, "zz"), [])


if __name__ == "__main__":
    unittest.main()
