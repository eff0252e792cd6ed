import random
import unittest

from helper import (CLOCK, FETCH, FREE, GET, N1, PUT, SAY, SEND, TAKE, busy_scene, program_of, random_record,
                    refused, refuses_what_does_not_fit, run_of, runs_refused, same_kind, search, stand_behind, stays)
from leastrecord.errors import NoFit, NoRun
from leastrecord.least import least_record, lessened, spare
from leastrecord.opens import is_enough, open_of
from leastrecord.records import is_record, whole_record, without_edge, without_gift
from leastrecord.stands import first_stand


# One put, and a get behind it with a touch between.
PUTTER = program_of((PUT, CLOCK), (CLOCK, GET))
PUTTER_RUN = run_of(0, (0, 3), (1, 4), 1)


class Least(unittest.TestCase):
    def is_least(self, program, stand, run, record):
        self.assertIs(is_enough(program, stand, run, record), True)
        for edge in record[2]:
            self.assertNotEqual(open_of(program, stand, run, without_edge(record, edge)), [])
        for hand, gifts in enumerate(record[1]):
            for n, gift in enumerate(gifts):
                self.assertNotEqual(open_of(program, stand, run, without_gift(record, hand, n)), [])
        self.assertEqual(spare(program, stand, run, record), [])
        self.assertEqual(lessened(program, stand, run, record), record)


class Spare(Least):
    def asked(self, program, run, edges, told, stand=None):
        stand = stand or first_stand(program)
        upto, gifts, needed = whole_record(program, stand, run)
        same_kind(self, stays(self, spare, program, stand, run, (upto, gifts, edges)), told)

    def test_none(self):
        self.asked(program_of((PUT,), (GET,)), run_of(0, 1), (((0, 0), (1, 0)),), [])
        self.asked(program_of((PUT,)), run_of(0), (), [])
        self.asked(program_of((PUT,), (GET,)), (), (), [])

    def test_an_edge_without_use(self):
        program = program_of((PUT, CLOCK), (GET, CLOCK))
        run = run_of(0, (0, 1), 1, (1, 1))
        self.asked(program, run, (((0, 0), (1, 0)), ((0, 1), (1, 1))), [((0, 1), (1, 1))])

    def test_each_by_itself_but_not_both(self):
        edges = (((0, 0), (1, 0)), ((0, 1), (1, 1)))
        self.asked(PUTTER, PUTTER_RUN, edges, list(edges))
        self.asked(PUTTER, PUTTER_RUN, edges[:1], [])
        self.asked(PUTTER, PUTTER_RUN, edges[1:], [])
        for left in edges:
            self.asked(PUTTER, PUTTER_RUN, (left,), [])

    def test_two_of_three(self):
        edges = (((0, 0), (1, 0)), ((0, 0), (1, 1)), ((0, 1), (1, 0)))
        self.asked(PUTTER, PUTTER_RUN, edges, list(edges))

    def test_what_letters_and_frees_bring(self):
        self.asked(program_of((PUT, SEND), (FETCH, GET)), run_of(0, 0, 1, 1), (((0, 0), (1, 1)),), [((0, 0), (1, 1))])
        program = program_of((TAKE, PUT, FREE), (TAKE, GET, FREE))
        run = run_of(0, 0, 0, 1, 1, 1)
        self.asked(program, run, (((0, 0), (1, 0)), ((0, 1), (1, 1))), [((0, 1), (1, 1))])
        stand = stand_behind(program, 0)
        self.asked(program, run[1:], (((0, 1), (1, 1)),), [((0, 1), (1, 1))], stand)

    def test_what_is_told_is_the_askers_own(self):
        edges = (((0, 0), (1, 0)), ((0, 1), (1, 1)))
        things = (PUTTER, first_stand(PUTTER), PUTTER_RUN, ((2, 2), ((3,), (4,)), edges))
        spare(*things).clear()
        self.assertEqual(spare(*things), list(edges))

    def test_as_enough_tells(self):
        chance = random.Random(37)
        found = 0
        for turn in range(60):
            program, stand, run = busy_scene(chance, most_steps=30)
            whole = whole_record(program, stand, run)
            extra = random_record(chance, program, stand, run, whole)
            record = (whole[0], whole[1], tuple(sorted(set(whole[2] + extra[2]))))
            told = stays(self, spare, program, stand, run, record)
            same_kind(self, told, [edge for edge in record[2] if is_enough(program, stand, run, without_edge(record, edge))])
            found += len(told)
        self.assertGreater(found, 60)


class Lessened(Least):
    def test_one_of_two(self):
        edges = (((0, 0), (1, 0)), ((0, 1), (1, 1)))
        stand = first_stand(PUTTER)
        told = stays(self, lessened, PUTTER, stand, PUTTER_RUN, ((2, 2), ((3,), (4,)), edges))
        self.assertIn(told, [((2, 2), ((3,), (4,)), (edge,)) for edge in edges])

    def test_its_own_edges_alone(self):
        program = program_of((PUT, SAY, SAY), (GET,))
        stand = first_stand(program)
        record = ((3, 1), ((), ()), (((0, 2), (1, 0)),))
        same_kind(self, stays(self, lessened, program, stand, run_of(0, 0, 0, 1), record), record)

    def test_records_of_runs(self):
        chance = random.Random(38)
        dropped = 0
        for turn in range(80):
            program, stand, run = busy_scene(chance, most_steps=25)
            whole = whole_record(program, stand, run)
            extra = random_record(chance, program, stand, run, whole)
            record = (whole[0], whole[1], tuple(sorted(set(whole[2] + extra[2]))))
            told = stays(self, lessened, program, stand, run, record)
            self.assertEqual(told[:2], record[:2])
            self.assertLessEqual(set(told[2]), set(record[2]))
            self.assertIs(is_record(program, stand, told), True)
            self.is_least(program, stand, run, told)
            dropped += len(record[2]) - len(told[2])
        self.assertGreater(dropped, 60)

    def test_many_edges(self):
        program = program_of(*[(PUT, GET, ("leap", 0, N1))] * 4)
        stand = first_stand(program)
        run = run_of(*[0, 1, 2, 3] * 15)
        whole = whole_record(program, stand, run)
        places = [(hand, k) for k in range(15) for hand in range(4)]
        pairs = [(one, other) for place, other in enumerate(places) for one in places[:place] if one[0] != other[0]]
        edges = tuple(sorted(set(whole[2]) | set(pairs[::4])))[:400]
        self.assertLessEqual(set(whole[2]), set(edges))
        self.is_least(program, stand, run, stays(self, lessened, program, stand, run, whole[:2] + (edges,)))


class LeastRecord(Least):
    def asked(self, program, run, edges, stand=None):
        stand = stand or first_stand(program)
        upto, gifts, needed = whole_record(program, stand, run)
        same_kind(self, stays(self, least_record, program, stand, run), (upto, gifts, edges))

    def test_without_needs(self):
        self.asked(program_of((CLOCK, PUT)), run_of((0, 3), 0), ())
        self.asked(program_of((GET,), (GET,)), run_of(0, 1), ())
        self.asked(program_of((GET,), (GET,)), (), ())

    def test_needs_that_lie_behind_others(self):
        program = program_of((GET, PUT), (GET, PUT))
        self.asked(program, run_of(0, 0, 1, 1), (((0, 1), (1, 0)),))
        self.asked(program, run_of(0, 1, 0, 1), (((0, 1), (1, 1)), ((1, 0), (0, 1))))

    def test_locks_spare_what_is_done_within(self):
        rows = (TAKE, GET, PUT, FREE)
        program = program_of(rows, rows)
        self.asked(program, run_of(*[0] * 4 + [1] * 4), (((0, 0), (1, 0)),))
        self.asked(program, run_of(*[0] * 3 + [1] * 4), (), stand_behind(program, 0))

    def test_letters_spare_what_goes_ahead(self):
        self.asked(program_of((PUT, SEND), (FETCH, GET)), run_of(0, 0, 1, 1), ())

    def test_what_is_no_run(self):
        program = program_of((PUT, ("leap", 0, N1)), (GET,))
        for thing, told in runs_refused():
            refused(self, NoRun, told, least_record, program, first_stand(program), thing)

    def test_of_any_run_nothing_is_open_and_each_entry_left_out_opens_something(self):
        chance = random.Random(39)
        for turn in range(120):
            program, stand, run = busy_scene(chance, most_steps=60 if turn % 10 == 0 else 20)
            whole = whole_record(program, stand, run)
            told = stays(self, least_record, program, stand, run)
            self.assertEqual(told[:2], whole[:2])
            self.assertLessEqual(set(told[2]), set(whole[2]))
            self.is_least(program, stand, run, told)

    def test_nothing_less_leads_the_run(self):
        chance = random.Random(40)
        parts = 0
        for turn in range(60):
            program, stand, run = busy_scene(chance, most_rows=6, most_steps=12, most_hands=3)
            told = least_record(program, stand, run)
            self.assertIsNone(search(program, stand, run, told)[0])
            for edge in told[2]:
                self.assertIsNotNone(search(program, stand, run, without_edge(told, edge))[0])
                parts += 1
        self.assertGreater(parts, 30)


class Refusals(Least):
    def test_runs_and_records_that_do_not_fit(self):
        refuses_what_does_not_fit(self, spare, True)
        refuses_what_does_not_fit(self, lessened, True)

    def test_records_that_are_not_enough(self):
        stand = first_stand(PUTTER)
        for ask in (spare, lessened):
            refused(self, NoFit, (4, "open"), ask, PUTTER, stand, PUTTER_RUN, ((2, 2), ((3,), (4,)), ()))
            refused(self, NoFit, (4, "open"), ask, PUTTER, stand, PUTTER_RUN, ((2, 2), ((None,), (4,)), (((0, 0), (1, 0)),)))
            refused(self, NoFit, (3, "end"), ask, PUTTER, stand, PUTTER_RUN[:3], ((2, 2), ((None,), (4,)), ()))
            refused(self, NoFit, (1, "edge"), ask, PUTTER, stand, run_of(0, (1, 4), (0, 3), 1),
                    ((2, 2), ((None,), (4,)), (((0, 1), (1, 0)),)))
            refused(self, NoFit, (1, "gift"), ask, PUTTER, stand, PUTTER_RUN, ((2, 2), ((4,), (None,)), ()))
            self.assertEqual(len(ask(PUTTER, stand, (), ((0, 0), ((), ()), ()))), 0 if ask is spare else 3)


if __name__ == "__main__":
    unittest.main()
