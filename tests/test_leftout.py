import itertools
import random
import unittest

from helper import (CLOCK, FETCH, FREE, GET, LOOP, N1, PUT, SAY, SEND, TAKE, X, bent_at_any_place, busy_scene, events_told, kinds, odd_things, program_of,
                    random_record, refused, run_of, runs_refused, same_kind, stand_behind, stays)
from leastrecord.checker import lets
from leastrecord.errors import LeastError, NoRun
from leastrecord.judging import judged
from leastrecord.least import least_record
from leastrecord.leftout import first_seen, left_out, left_run, lets_left
from leastrecord.opens import is_enough
from leastrecord.records import is_record, whole_record
from leastrecord.runs import tables_of
from leastrecord.stands import can_go, first_stand
from leastrecord.steps import gone


def seen_by_the_words(program, stand, run, hands):
    """The event of the first step that sees that the hands lack."""
    here = stand
    for (event, look), (hand, gift) in zip(events_told(program, stand, run), run):
        if hand in hands:
            continue
        if hand not in can_go(program, here):
            return event
        here, other = gone(program, here, hand, gift)
        if other[2] != look[2]:
            return event
    return None


def some_hands(many):
    """All rising tuples of hands' numbers."""
    return [hands for size in range(many + 1) for hands in itertools.combinations(range(many), size)]


class LeftRun(unittest.TestCase):
    def test_the_others_steps_in_their_order(self):
        run = run_of(0, (1, 5), 2, (0, 0), 1, 3, 0)
        for hands, told in (((), run), ((0,), run_of((1, 5), 2, 1, 3)), ((1, 3), run_of(0, 2, (0, 0), 0)), ((0, 1, 2), run_of(3)), ((0, 1, 2, 3), ())):
            same_kind(self, stays(self, left_run, run, hands), told)

    def test_no_steps(self):
        same_kind(self, left_run((), (0,)), ())
        same_kind(self, left_run((), ()), ())
        same_kind(self, left_run(run_of(1, 1), (0,)), run_of(1, 1))


class FirstSeen(unittest.TestCase):
    def asked(self, rows, steps, hands, told, stand_steps=()):
        program = program_of(*rows)
        stand = stand_behind(program, *stand_steps)
        run = run_of(*steps)
        same_kind(self, stays(self, first_seen, program, stand, run, hands), told)
        self.assertEqual(seen_by_the_words(program, stand, run, hands), told)
        answer = stays(self, left_out, program, stand, run, hands)
        if told is None:
            same_kind(self, answer[:2], ("left", left_run(run, hands)))
        else:
            same_kind(self, answer, ("seen", told))

    def test_none_left_out(self):
        self.asked(((PUT,), (GET,)), (0, 1), (), None)
        self.asked(((PUT,), (GET,)), (), (), None)

    def test_all_left_out(self):
        self.asked(((PUT,), (GET,)), (0, 1), (0, 1), None)
        self.asked(((TAKE,), (GET,)), (1,), (0, 1), None, (0,))

    def test_another_value_in_a_box(self):
        rows = ((PUT,), (GET, CLOCK))
        self.asked(rows, (0, 1, (1, 5)), (0,), (1, 0))
        self.asked(rows, (1, 0, (1, 5)), (0,), None)
        self.asked(rows, (0, 1, (1, 5)), (1,), None)

    def test_the_same_value_by_another_mark(self):
        rows = ((("put", "b", ("num", 5)),), (GET, PUT))
        self.asked(rows, (0, 1, 1), (0,), None)
        self.asked(((SAY,), (SAY,)), (0, 1), (0,), None)
        self.asked(((SEND,), (SEND,)), (0, 1), (0,), None)
        self.asked(((TAKE, FREE), (TAKE,)), (0, 0, 1), (0,), None)

    def test_a_letter_that_is_not_there(self):
        self.asked(((SEND,), (SAY, FETCH)), (0, 1, 1), (0,), (1, 1))
        self.asked(((SEND,), (FETCH,), (SEND,)), (0, 2, 1), (0,), None)
        self.asked(((("send", "n", ("num", 4)),), (FETCH,), (SEND,)), (0, 2, 1), (0,), (1, 0))
        self.asked(((("send", "n", ("num", 4)),), (FETCH,), (SEND,)), (0, 2, 1), (2,), None)

    def test_a_letter_that_another_one_fetched(self):
        # Without the first fetch the next one finds the letter that it took.
        rows = ((("send", "n", ("num", 4)), ("send", "n", ("num", 5))), (FETCH,), (FETCH,))
        self.asked(rows, (0, 0, 1, 2), (1,), (2, 0))
        self.asked(rows, (0, 0, 1, 2), (2,), None)

    def test_letters_that_they_sent_ahead_of_the_stand(self):
        self.asked(((SEND, SEND), (FETCH, FETCH)), (1,), (0,), None, (0,))
        self.asked(((SEND, SEND), (FETCH, FETCH)), (0, 1, 1), (0,), (1, 1), (0,))

    def test_a_lock_that_they_hold_at_the_stand(self):
        rows = ((TAKE, FREE), (SAY, TAKE))
        self.asked(rows, (0, 1, 1), (0,), (1, 1), (0,))
        self.asked(rows, (1,), (0,), None, (0,))
        self.asked(rows, (0, 1, 1), (1,), None, (0,))

    def test_the_first_of_several(self):
        rows = ((PUT, SEND), (GET, SAY), (FETCH,))
        self.asked(rows, (0, 0, 2, 1, 1), (0,), (2, 0))
        self.asked(rows, (0, 0, 1, 2, 1), (0,), (1, 0))
        self.asked(rows, (0, 1, 0, 1, 2), (0, 1), (2, 0))
        self.asked(rows, (0, 1, 0, 1, 2), (0, 2), (1, 0))

    def test_seen_at_second_hand(self):
        # A hand that finds the same goes on; one that finds something else is the first, not the one behind it.
        rows = ((PUT,), (GET, ("put", "c", X)), (("get", "x", "c"),))
        self.asked(rows, (0, 1, 1, 2), (0,), (1, 0))
        self.asked(rows, (0, 1, 1, 2), (1,), (2, 0))
        self.asked(rows, (0, 1, 1, 2), (0, 1), (2, 0))

    def test_numbers_as_in_the_run(self):
        self.asked(((PUT, LOOP), (GET, LOOP)), (1, 0, 1), (0,), None, (0, 1, 1))
        rows = ((("put", "b", ("num", 7)), LOOP), (GET, LOOP))
        self.asked(rows, (1, 0, 1), (0,), (1, 3), (1, 1))
        self.asked(rows, (1, 1, 0, 1, 1), (0,), (1, 2))

    def test_gifts_are_the_steps_own(self):
        rows = ((PUT,), (CLOCK, GET, ("lot", "x", 6), ("say", "d", X)))
        self.asked(rows, (0, (1, 999), 1, (1, 5), 1), (0,), (1, 1))
        self.asked(rows, ((1, 999), 1, (1, 5), 1, 0), (0,), None)

    def test_any_runs(self):
        chance = random.Random(130)
        answers = []
        for turn in range(120):
            program, stand, run = busy_scene(chance)
            for hands in some_hands(len(stand[0])):
                told = stays(self, first_seen, program, stand, run, hands)
                same_kind(self, told, seen_by_the_words(program, stand, run, hands))
                if 0 < len(hands) < len(stand[0]):
                    answers.append(told)
                else:
                    self.assertIsNone(told)
        self.assertGreater(answers.count(None), 100)
        self.assertGreater(len(set(answers)), 12)


class LeftOut(unittest.TestCase):
    def right(self, program, stand, run, hands):
        """What is told, which is right."""
        told = stays(self, left_out, program, stand, run, hands)
        event = seen_by_the_words(program, stand, run, hands)
        if event is not None:
            same_kind(self, told, ("seen", event))
        else:
            word, left, record = told
            same_kind(self, (word, left), ("left", left_run(run, hands)))
            self.assertIs(type(told), tuple)
            self.assertIs(is_record(program, stand, record), True)
            self.assertIs(is_enough(program, stand, left, record), True)
            paper = judged(program, stand, left, record)
            self.assertIs(lets(program, stand, record, paper[1]), True)
            for hand in range(len(stand[0])):
                values = [[look[:3] for look in tables_of(program, stand, one)[hand]] for one in (run, left)]
                self.assertEqual(values[1], [] if hand in hands else values[0])
        self.assertIs(stays(self, lets_left, program, stand, run, hands, told), True)
        return told

    def test_ordinary_ones(self):
        program = program_of((PUT, SAY), (CLOCK, SAY), (GET,))
        stand = first_stand(program)
        run = run_of((1, 4), 0, 1, 0, 2)
        told = self.right(program, stand, run, (1,))
        self.assertEqual(told[1], run_of(0, 0, 2))
        self.assertEqual(self.right(program, stand, run, (0,)), ("seen", (2, 0)))
        self.assertEqual(self.right(program, stand, run, (0, 2))[1], run_of((1, 4), 1))
        self.assertEqual(self.right(program, stand, run, (0, 1, 2))[1:], ((), ((0, 0, 0), ((), (), ()), ())))
        self.assertEqual(self.right(program, stand, run, ())[1], run)

    def test_any_runs(self):
        chance = random.Random(131)
        words = []
        for turn in range(60):
            program, stand, run = busy_scene(chance, most_steps=25)
            for hands in some_hands(len(stand[0])):
                words.append(self.right(program, stand, run, hands)[0])
        self.assertGreater(min(words.count("left"), words.count("seen")), 60)

    def test_refusals(self):
        program = program_of((GET, LOOP), (SAY,))
        stand = first_stand(program)
        for thing, told in runs_refused():
            for hands in ((), (0,), (0, 1)):
                refused(self, NoRun, told, first_seen, program, stand, thing, hands)
                refused(self, NoRun, told, left_out, program, stand, thing, hands)
                for answer in (None, ("seen", (0, 0)), ("left", (), ((0, 0), ((), ()), ()))):
                    refused(self, NoRun, told, lets_left, program, stand, thing, hands, answer)


class LetsLeft(unittest.TestCase):
    program = program_of((PUT, SAY), (CLOCK, SAY), (GET,), (PUT,))
    stand = stand_behind(program, 3)
    made = run_of((1, 4), 0, 1, 0, 2)
    left = run_of((1, 4), 1, 2)
    record = ((0, 2, 1, 1), ((), (4,), (), ()), ())

    def asked(self, thing, told, hands=(0,), run=None):
        self.assertIs(stays(self, lets_left, self.program, self.stand, run or self.made, hands, thing), told)

    def test_right_ones(self):
        self.assertIsNone(first_seen(self.program, self.stand, self.made, (0,)))
        self.asked(("left", self.left, self.record), True)
        self.asked(("left", self.left, self.record[:2] + ((((1, 1), (2, 0)),),)), True)

    def test_seen_where_none_is(self):
        for event in ((1, 0), (1, 1), (2, 0), (0, 0), None):
            self.asked(("seen", event), False)

    def test_runs_that_are_bent(self):
        for run in ((), self.left[:2], self.left + run_of(2), self.made, run_of(1, (1, 4), 2), run_of(2, (1, 4), 1), run_of((1, 5), 1, 2),
                    list(self.left), [list(step) for step in self.left], ((1, 4), (1, None), [2, None]), ((True, 4), (1, None), (2, None)),
                    ((1, 4), (True, None), (2, None)), ((1, 4), (1, None), (2, 0)), ((1, 4), (1, None), (2, False)),
                    ((1, 4), (1, None), (2, None, None)), ((1, 4), (1, None), (2,)), None, "", 3):
            self.asked(("left", run, self.record), False)

    def test_kinds_of_gifts(self):
        program = program_of((PUT,), (CLOCK, CLOCK))
        stand = first_stand(program)
        run = run_of(0, (1, 1), (1, 0))
        record = ((0, 2), ((), (1, 0)), ())
        for left, told in ((((1, 1), (1, 0)), True), (((1, True), (1, 0)), False), (((1, 1), (1, False)), False), (((1, 0), (1, 1)), False)):
            self.assertIs(stays(self, lets_left, program, stand, run, (0,), ("left", left, record)), told)
        for gifts, told in (((1, 0), True), ((True, 0), False), ((1, False), False), ([1, 0], False), ((1, None), False), ((1,), False)):
            self.assertIs(stays(self, lets_left, program, stand, run, (0,), ("left", run[1:], ((0, 2), ((), gifts), ()))), told)

    def test_records_that_are_bent(self):
        upto, gifts, edges = self.record
        for record in ((upto, gifts), self.record + ((),), list(self.record), (list(upto), gifts, edges), ((0, 2, 1), gifts, edges), ((0, 2, 1, 0), gifts, edges),
                       ((0, 2, True, 1), gifts, edges), (upto, gifts, []), (upto, ((), (4,), ()), edges), (upto, gifts, (((1, 0), (2, 1)),)),
                       ((0, 3, 1, 1), gifts, edges), ((1, 2, 1, 1), gifts, edges), ((0, 2, 0, 1), gifts, edges), (upto, ((), (5,), (), ()), edges),
                       (upto, ((), (None,), (), ()), edges), (upto, ((), (4, 4), (), ()), edges), (upto, ((), (), (), ()), edges),
                       (upto, gifts, (((2, 0), (1, 0)),)), None, (), "", 0, {}):
            self.asked(("left", self.left, record), False)

    def test_a_record_that_is_not_enough(self):
        program = program_of((CLOCK,), (SAY,), (SAY,))
        stand = first_stand(program)
        run = run_of(1, (0, 4), 2)
        for edges, told in (((((1, 0), (2, 0)),), True), ((), False), ((((2, 0), (1, 0)),), False)):
            self.assertIs(stays(self, lets_left, program, stand, run, (0,), ("left", run_of(1, 2), ((0, 1, 1), ((), (), ()), edges))), told)

    def test_where_one_is_seen(self):
        program = program_of((("put", "b", ("num", 7)),), (GET, SAY))
        stand = first_stand(program)
        run = run_of(0, 1, 1)
        for thing, told in ((("seen", (1, 0)), True), (("seen", (1, 1)), False), (("seen", (0, 0)), False), (("seen", [1, 0]), False),
                            (["seen", (1, 0)], False), (("seen", (True, 0)), False), (("seen", (1, False)), False), (("seen", (1, 0), ()), False),
                            (("seen",), False), (("seen", (1, 0, 0)), False), (("Seen", (1, 0)), False), (("left", (1, 0)), False),
                            (("seen", None), False), ((1, 0), False), (None, False),
                            (("left", run_of(1, 1), ((0, 2), ((), ()), ())), False), (("left", (), ((0, 0), ((), ()), ())), False)):
            self.assertIs(stays(self, lets_left, program, stand, run, (0,), thing), told)

    def test_any_plain_thing(self):
        for thing in odd_things() + [("left",), ("left", self.left), ("left", self.left, self.record, ()), ["left", self.left, self.record],
                                     ("Left", self.left, self.record), (None, self.left, self.record), (["left"], self.left, self.record),
                                     {"left": self.left}, (self.left, self.record)]:
            self.asked(thing, False)
            self.asked(thing, False, (3,))
            self.asked(("left", thing, self.record), False)
            self.asked(("left", self.left, thing), False)
            self.asked(("seen", thing), False)
            self.asked((thing, self.left, self.record), False)

    def test_any_record_that_is_enough(self):
        chance = random.Random(132)
        answers = []
        for turn in range(150):
            program, stand, run = busy_scene(chance, most_steps=16)
            hands = chance.choice(some_hands(len(stand[0])))
            if first_seen(program, stand, run, hands) is not None:
                continue
            left = left_run(run, hands)
            for record in (whole_record(program, stand, left), least_record(program, stand, left),
                           random_record(chance, program, stand, left, whole_record(program, stand, left)), whole_record(program, stand, run)):
                try:
                    is_right = is_enough(program, stand, left, record)
                except LeastError:
                    is_right = False
                answers.append(is_right)
                self.assertIs(stays(self, lets_left, program, stand, run, hands, ("left", left, record)), is_right)
        self.assertGreater(min(answers.count(True), answers.count(False)), 20)

    def test_answers_bent_at_any_place(self):
        chance = random.Random(133)
        for turn in range(400):
            program, stand, run = busy_scene(chance, most_rows=6, most_steps=8)
            hands = chance.choice(some_hands(len(stand[0])))
            answer = left_out(program, stand, run, hands)
            other = bent_at_any_place(chance, answer, odd_things() + ["left", "seen"])
            told = stays(self, lets_left, program, stand, run, hands, other)
            self.assertIs(type(told), bool)
            if kinds(other) == kinds(answer):
                self.assertIs(told, True)
            elif told:
                # Only edges may be others.
                self.assertEqual(kinds(other[:2] + other[2][:2]), kinds(answer[:2] + answer[2][:2]))
                self.assertIs(is_enough(program, stand, other[1], other[2]), True)


class Examples(unittest.TestCase):
    def test_one_hand(self):
        program = program_of((PUT, ("say", "d", N1)))
        stand = first_stand(program)
        run = run_of(0, 0)
        same_kind(self, left_out(program, stand, run, (0,)), ("left", (), ((0,), ((),), ())))
        same_kind(self, left_out(program, stand, run, ()), ("left", run, ((2,), ((),), ())))


if __name__ == "__main__":
    unittest.main()
