import random
import unittest

from helper import (CLOCK, FETCH, FREE, GET, LOOP, N0, PUT, SAY, SEND, TAKE, Y, busy_scene, kinds, marks_by_the_words, odd_things, program_of,
                    random_record, run_of, same_kind, stand_behind, stays, with_look)
from leastrecord.markfaults import edge_fault, mark_fault
from leastrecord.papers import is_paper, paper_of
from leastrecord.records import whole_record
from leastrecord.rowfaults import row_fault
from leastrecord.stands import first_stand


def paper(program, stand, run):
    return paper_of(program, stand, run, whole_record(program, stand, run))


class MarkFault(unittest.TestCase):
    def asked(self, program, stand, thing, told):
        same_kind(self, stays(self, mark_fault, program, stand, thing), told)

    def by_order(self, program, stand, run, order, told):
        """The fault of the run's paper with another order."""
        self.asked(program, stand, (order,) + paper(program, stand, run)[1:], told)

    def test_papers_of_runs_have_none(self):
        chance = random.Random(41)
        for turn in range(100):
            program, stand, run = busy_scene(chance)
            self.asked(program, stand, paper(program, stand, run), None)

    def test_a_mark_otherwise_at_each_kind(self):
        rows = (GET, PUT, GET, TAKE, FREE, TAKE, FREE, SEND, SEND, FETCH, SAY, SAY, CLOCK, ("lot", "x", 6), ("hear", "x", "d"))
        program = program_of(rows)
        stand = first_stand(program)
        good = paper(program, stand, run_of(*[0] * 12 + [(0, 3), (0, 4), (0, 5)]))
        for k, look in enumerate(good[1][0]):
            for mark in odd_things() + [(0, 1), (0, 4), (0, 2), 0, 1, 2, None, (0,), [0, 1], (0, True), (False, 1), (0, 1, 0), {0: 1}]:
                told = None if kinds(mark) == kinds(look[3]) else (0, k)
                self.asked(program, stand, with_look(stand, good, (0, k), look[:3] + (mark,)), told)

    def test_marks_by_kind(self):
        program = program_of((GET, PUT, SAY, TAKE, FREE), (("get", "y", "c"), PUT, GET, SAY, TAKE))
        stand = first_stand(program)
        good = paper(program, stand, run_of(0, 1, 1, 1, 0, 1, 0, 0, 0, 1))
        self.assertEqual(good[1][1][2:], (("get", "b", 1, (1, 1)), ("say", "d", 1, 0), ("take", "l", None, (0, 4))))
        for event, marks in (((1, 2), ([1, 1], (True, 1), (1, True), (True, True), (1, 1, 1), (1,), 1)),
                             ((1, 3), (False, None, (0,), "0", [])), ((0, 2), (True, 2, None, "1", (1,))), ((0, 0), (0, False, (), ""))):
            look = good[1][event[0]][event[1]]
            for mark in marks:
                self.asked(program, stand, with_look(stand, good, event, look[:3] + (mark,)), event)

    def test_a_get_tells_the_last_puts_value(self):
        program = program_of((("put", "b", ("num", 3)), ("put", "b", ("num", 4))), (GET, GET))
        stand = first_stand(program)
        good = paper(program, stand, run_of(0, 1, 0, 1))
        self.asked(program, stand, with_look(stand, good, (1, 0), ("get", "b", 4, (0, 0))), (1, 0))
        self.asked(program, stand, with_look(stand, good, (1, 1), ("get", "b", 3, (0, 1))), (1, 1))
        self.asked(program, stand, with_look(stand, good, (1, 1), ("get", "b", 4, (0, 0))), (1, 1))
        self.asked(program, stand, with_look(stand, good, (1, 0), ("get", "b", 5, None)), (1, 0))

    def test_a_get_tells_what_stands_at_the_stand(self):
        program = program_of((("put", "b", ("num", 3)), PUT), (GET, ("get", "y", "c")))
        stand = stand_behind(program, 0)
        good = paper(program, stand, run_of(1, 1, 0))
        self.assertEqual(good[1][1], (("get", "b", 3, (0, 0)), ("get", "c", 0, None)))
        for look in (("get", "b", 5, None), ("get", "b", 3, None), ("get", "b", 4, (0, 0)), ("get", "b", 3, (0, 1)), ("get", "b", 5, (0, 0))):
            self.asked(program, stand, with_look(stand, good, (1, 0), look), (1, 0))
        self.asked(program, stand, with_look(stand, good, (1, 1), ("get", "c", 1, None)), (1, 1))
        self.asked(program, stand, with_look(stand, good, (0, 1), ("put", "b", 1, None)), (0, 1))

    def test_boxes_by_the_order(self):
        program = program_of((PUT, PUT), (GET, ("put", "b", Y)))
        stand = first_stand(program)
        run = run_of(0, 1, 0, 1)
        self.by_order(program, stand, run, (0, 1, 0, 1), None)
        self.by_order(program, stand, run, (1, 0, 0, 1), (1, 0))
        self.by_order(program, stand, run, (0, 0, 1, 1), (1, 0))
        self.by_order(program, stand, run, (0, 1, 1, 0), (0, 1))
        self.by_order(program, stand, run, (1, 1, 0, 0), (0, 0))

    def test_what_a_put_tells_counts_behind_it_whatever_its_mark(self):
        program = program_of((PUT,), (GET,))
        stand = first_stand(program)
        good = with_look(stand, paper(program, stand, run_of(0, 1)), (0, 0), ("put", "b", 1, (1, 7)))
        self.asked(program, stand, good, (0, 0))
        bent = with_look(stand, paper(program, stand, run_of(0, 1)), (1, 0), ("get", "b", 1, None))
        self.asked(program, stand, bent, (1, 0))

    def test_a_take_that_finds_its_lock_held(self):
        program = program_of((TAKE, FREE), (TAKE, FREE))
        stand = first_stand(program)
        run = run_of(0, 0, 1, 1)
        self.by_order(program, stand, run, (0, 1, 0, 1), (1, 0))
        good = paper(program, stand, run)
        # Even where it tells the lock's mark.
        self.asked(program, stand, ((0, 1, 0, 1),) + with_look(stand, good, (1, 0), ("take", "l", None, None))[1:], (1, 0))
        self.asked(program, stand, ((1, 0, 1, 0),) + with_look(stand, good, (1, 0), ("take", "l", None, None))[1:], (0, 0))
        self.asked(program, stand, with_look(stand, good, (1, 0), ("take", "l", None, None)), (1, 0))
        self.asked(program, stand, with_look(stand, good, (1, 0), ("take", "l", None, (1, 1))), (1, 0))

    def test_a_lock_that_is_held_at_the_stand(self):
        program = program_of((TAKE, FREE), (TAKE,))
        stand = stand_behind(program, 0)
        good = paper(program, stand, run_of(0, 1))
        self.asked(program, stand, good, None)
        self.by_order(program, stand, run_of(0, 1), (1, 0), (1, 0))
        self.asked(program, stand, ((1, 0),) + with_look(stand, good, (1, 0), ("take", "l", None, None))[1:], (1, 0))

    def test_a_lock_that_was_freed_ahead_of_the_stand(self):
        program = program_of((TAKE, FREE), (TAKE,))
        stand = stand_behind(program, 0, 0)
        good = paper(program, stand, run_of(1))
        self.assertEqual(good[1][1], (("take", "l", None, (0, 1)),))
        self.asked(program, stand, good, None)
        self.asked(program, stand, with_look(stand, good, (1, 0), ("take", "l", None, None)), (1, 0))

    def test_a_lock_is_free_behind_a_free_whoever_took_it(self):
        program = program_of((TAKE, FREE), (TAKE, FREE), (TAKE, FREE))
        stand = first_stand(program)
        good = paper(program, stand, run_of(0, 0, 1, 1, 2, 2))
        bent = ((0, 1, 0, 2, 1, 2),) + with_look(stand, good, (2, 0), ("take", "l", None, (0, 1)))[1:]
        self.asked(program, stand, bent, (1, 0))
        self.assertEqual(marks_by_the_words(program, stand, bent), [(1, 0)])

    def test_a_free_tells_none(self):
        program = program_of((TAKE, FREE))
        stand = first_stand(program)
        good = paper(program, stand, run_of(0, 0))
        self.asked(program, stand, with_look(stand, good, (0, 1), ("free", "l", None, (0, 0))), (0, 1))

    def test_letters_by_the_order(self):
        program = program_of((SEND, SEND), (("send", "n", N0), FETCH), (FETCH,))
        stand = first_stand(program)
        run = run_of(0, 1, 0, 1, 2)
        self.by_order(program, stand, run, (0, 1, 0, 1, 2), None)
        self.by_order(program, stand, run, (0, 1, 0, 2, 1), (1, 1))
        self.by_order(program, stand, run, (1, 0, 0, 1, 2), (0, 0))
        self.by_order(program, stand, run, (0, 0, 1, 1, 2), (0, 1))

    def test_a_fetch_ahead_of_its_send(self):
        program = program_of((SEND, SEND), (FETCH, FETCH))
        stand = first_stand(program)
        run = run_of(0, 0, 1, 1)
        self.by_order(program, stand, run, (1, 0, 0, 1), (1, 0))
        self.by_order(program, stand, run, (0, 1, 1, 0), (1, 1))
        self.by_order(program, stand, run, (1, 1, 0, 0), (1, 0))

    def test_a_fetch_too_soon_takes_no_letter_from_the_next(self):
        program = program_of((("send", "n", ("num", 3)), ("send", "n", ("num", 4))), (FETCH, FETCH))
        stand = first_stand(program)
        good = paper(program, stand, run_of(0, 0, 1, 1))
        bent = ((1, 0, 0, 1),) + good[1:]
        self.assertEqual(marks_by_the_words(program, stand, bent), [(1, 0)])
        self.asked(program, stand, bent, (1, 0))
        # The letter of number 1 is the second send's, whatever became of the first.
        program = program_of((FETCH,), (("send", "n", ("num", 3)), ("send", "n", ("num", 4))), (FETCH,))
        stand = first_stand(program)
        good = paper(program, stand, run_of(1, 1, 0, 2))
        bent = with_look(stand, ((0, 1, 1, 2),) + good[1:], (0, 0), ("fetch", "n", 3, 0))
        self.asked(program, stand, bent, (0, 0))
        self.assertEqual(marks_by_the_words(program, stand, bent), [(0, 0)])
        bent = with_look(stand, good, (2, 0), ("fetch", "n", 3, 1))
        self.asked(program, stand, bent, (2, 0))

    def test_what_a_letter_is_worth(self):
        program = program_of((SEND, ("send", "n", ("num", 4))), (FETCH, FETCH))
        stand = first_stand(program)
        good = paper(program, stand, run_of(0, 0, 1, 1))
        self.asked(program, stand, with_look(stand, good, (1, 0), ("fetch", "n", 4, 0)), (1, 0))
        self.asked(program, stand, with_look(stand, good, (1, 1), ("fetch", "n", 1, 1)), (1, 1))
        self.asked(program, stand, with_look(stand, good, (1, 1), ("fetch", "n", 4, 0)), (1, 1))
        # A send's mark is its own fault; its letter has the number that it has by the order.
        self.asked(program, stand, with_look(stand, good, (0, 1), ("send", "n", 4, 7)), (0, 1))

    def test_letters_that_waited_at_the_stand(self):
        program = program_of((("send", "n", ("num", 3)), ("send", "n", ("num", 4)), ("send", "n", ("num", 5))), (FETCH, FETCH, FETCH))
        for steps, left in (((0, 0), (0, 1, 1, 1)), ((0, 0, 1), (1, 0, 1)), ((0, 0, 0), (1, 1, 1)), ((0, 0, 1, 1), (0, 1))):
            stand = stand_behind(program, *steps)
            good = paper(program, stand, run_of(*left))
            self.asked(program, stand, good, None)
            for event in [(1, k) for k in range(stand[0][1], 3)]:
                look = good[1][1][event[1] - stand[0][1]]
                self.asked(program, stand, with_look(stand, good, event, look[:2] + ((look[2] + 1), look[3])), event)
                self.asked(program, stand, with_look(stand, good, event, look[:3] + (look[3] - 1,)), event)
        stand = stand_behind(program, 0, 0)
        self.by_order(program, stand, run_of(0, 1, 1, 1), (1, 1, 1, 0), (1, 2))
        self.by_order(program, stand, run_of(0, 1, 1, 1), (1, 1, 0, 1), None)

    def test_counts_ahead_of_the_stand(self):
        program = program_of((SEND, SEND, SAY, SAY), (SAY, SEND))
        stand = stand_behind(program, 0, 0, 0)
        good = paper(program, stand, run_of(1, 0, 1))
        self.assertEqual(good[1], ((("say", "d", 1, 2),), (("say", "d", 1, 1), ("send", "n", 1, 2))))
        self.asked(program, stand, good, None)
        self.by_order(program, stand, run_of(1, 0, 1), (0, 1, 1), (0, 3))
        for event, look in (((0, 3), ("say", "d", 1, 1)), ((1, 0), ("say", "d", 1, 0)), ((1, 1), ("send", "n", 1, 0))):
            self.asked(program, stand, with_look(stand, good, event, look), event)

    def test_hears_do_not_count_at_their_door(self):
        program = program_of((("hear", "x", "d"), SAY), (("hear", "x", "e"), SAY))
        stand = first_stand(program)
        good = paper(program, stand, run_of((0, 1), (1, 2), 1, 0))
        self.asked(program, stand, good, None)
        self.asked(program, stand, with_look(stand, good, (0, 0), ("hear", "d", 1, 0)), (0, 0))

    def test_of_several_the_least_hands_least_number(self):
        program = program_of((PUT, SAY, CLOCK), (SAY, PUT, GET), (GET, SEND, SAY))
        stand = first_stand(program)
        good = paper(program, stand, run_of(2, 1, 0, 0, 1, 1, 2, 2, (0, 4)))
        for events, told in ((((2, 0), (1, 2), (1, 1)), (1, 1)), (((2, 2), (0, 2)), (0, 2)), (((0, 2), (0, 1), (2, 0)), (0, 1)),
                             (((2, 2), (2, 1)), (2, 1))):
            bent = good
            for hand, k in events:
                bent = with_look(stand, bent, (hand, k), good[1][hand][k][:3] + ("zz",))
            self.asked(program, stand, bent, told)

    def test_as_the_words_tell(self):
        chance = random.Random(42)
        met = {}
        for turn in range(600):
            program, stand, run = busy_scene(chance, most_steps=chance.choice([8, 20, 60]))
            bent = self.bent(chance, program, stand, paper(program, stand, run))
            if row_fault(program, stand, bent) is None:
                told = min(marks_by_the_words(program, stand, bent), default=None)
                self.asked(program, stand, bent, told)
                kind = told and bent[1][told[0]][told[1] - stand[0][told[0]]][0]
                met[kind] = met.get(kind, 0) + 1
        self.assertEqual(set(met), {None, "get", "put", "take", "free", "send", "fetch", "say", "clock", "lot", "hear"})
        self.assertGreater(met[None], 20)
        self.assertGreater(sum(met.values()), 400)

    def bent(self, chance, program, stand, good):
        """A paper of the right shape with some places of its order changed, and perhaps a look."""
        order = list(good[0])
        for turn in range(chance.choice([0, 0, 1, 1, 5])):
            if len(order) > 1:
                place = chance.randrange(len(order) - 1)
                order[place], order[place + 1] = order[place + 1], order[place]
        bent = (tuple(order),) + good[1:]
        events = [(hand, stand[0][hand] + place) for hand, looks in enumerate(good[1]) for place in range(len(looks))]
        for turn in range(chance.choice([0, 1, 1, 2])):
            if events:
                event = chance.choice(events)
                kind, thing, value, mark = good[1][event[0]][event[1] - stand[0][event[0]]]
                if kind in ("get", "fetch") and chance.random() < 0.5:
                    value = chance.randrange(8)
                else:
                    mark = chance.choice([None, 0, 1, 2, True, (0, 0), (1, 1), [0, 1], chance.choice(events)])
                bent = with_look(stand, bent, event, (kind, thing, value, mark))
        return bent


class EdgeFault(unittest.TestCase):
    program = program_of(*[(SAY, LOOP)] * 3)

    def asked(self, order, edges, told, stand=None):
        """The fault of a paper with this order by these edges; its tables and claims are not looked at."""
        stand = stand or first_stand(self.program)
        owed = [order.count(hand) for hand in range(3)]
        record = (tuple(count + many for count, many in zip(stand[0], owed)), ((),) * 3, edges)
        thing = (order, tuple((None,) * many for many in owed), tuple(((0, 0, 0),) * many for many in owed))
        self.assertTrue(is_paper(self.program, stand, record, thing))
        same_kind(self, stays(self, edge_fault, stand, record, thing), told)

    def test_edges_that_the_order_keeps(self):
        self.asked((0, 1, 0, 2), (), None)
        self.asked((), (), None)
        self.asked((0, 1, 0, 2), (((0, 0), (1, 0)), ((0, 0), (2, 0)), ((0, 1), (2, 0)), ((1, 0), (0, 1)), ((1, 0), (2, 0))), None)

    def test_a_first_event_that_is_not_ahead(self):
        self.asked((0, 1, 0, 2), (((0, 1), (1, 0)),), (1, 0))
        self.asked((1, 0), (((0, 0), (1, 0)),), (1, 0))
        self.asked((1, 0), (((1, 0), (0, 0)),), None)
        self.asked((2, 1, 0), (((0, 0), (2, 0)),), (2, 0))

    def test_of_several_the_least_hands_least_number(self):
        order = (0, 1, 2, 0, 1, 2)
        self.asked(order, (((0, 1), (1, 0)), ((0, 1), (2, 0))), (1, 0))
        self.asked(order, (((0, 1), (2, 0)), ((1, 1), (0, 1)), ((2, 0), (1, 0))), (0, 1))
        self.asked(order, (((1, 1), (0, 0)), ((2, 1), (0, 0)), ((2, 1), (0, 1))), (0, 0))
        self.asked(order, (((0, 0), (2, 1)), ((0, 1), (2, 0)), ((1, 1), (2, 0))), (2, 0))

    def test_numbers_from_the_stands_counts_on(self):
        stand = stand_behind(self.program, 0, 0, 1)
        self.asked((0, 1, 0), (((0, 2), (1, 1)),), None, stand)
        self.asked((0, 1, 0), (((0, 3), (1, 1)),), (1, 1), stand)
        self.asked((0, 1, 0), (((1, 1), (0, 2)), ((1, 1), (0, 3))), (0, 2), stand)

    def test_papers_of_runs_and_other_orders(self):
        chance = random.Random(43)
        answers = []
        for turn in range(200):
            program, stand, run = busy_scene(chance, most_steps=20)
            record = random_record(chance, program, stand, run, whole_record(program, stand, run))
            good = paper_of(program, stand, run, record)
            self.assertIsNone(stays(self, edge_fault, stand, record, good))
            order = chance.sample(good[0], len(good[0]))
            places = {}
            for place, hand in enumerate(order):
                places[(hand, stand[0][hand] + order[:place].count(hand))] = place
            faults = [second for first, second in record[2] if not places[first] < places[second]]
            answers.append(min(faults, default=None))
            same_kind(self, stays(self, edge_fault, stand, record, (tuple(order),) + good[1:]), answers[-1])
        self.assertGreater(len(set(answers)), 8)


if __name__ == "__main__":
    unittest.main()
