import random
import unittest

from helper import (CLOCK, FETCH, FREE, GET, LOOP, N0, PUT, SAY, SEND, TAKE, X, busy_scene, program_of, random_record,
                    refuses_what_does_not_fit, run_of, same_kind, search, stand_behind, stays)
from leastrecord.fitting import misfit
from leastrecord.least import least_record, spare
from leastrecord.opens import is_enough, open_of
from leastrecord.partings import parting, partings
from leastrecord.records import whole_record, without_edge, without_gift
from leastrecord.runs import parted
from leastrecord.stands import first_stand


class Partings(unittest.TestCase):
    def parts(self, program, stand, run, record, other):
        """The other one is a run that fits the record and parts."""
        self.assertIs(type(other), tuple)
        for step in other:
            self.assertEqual((type(step), len(step), type(step[0])), (tuple, 2, int))
        self.assertIsNone(misfit(program, stand, other, record))
        self.assertIsNotNone(parted(program, stand, run, other))
        self.assertLessEqual(len(other), 60)

    def asked(self, program, steps, edges=(), gifts=None, stand=None):
        """Whether there is a parting, which then is a right one, of a run by its counts, these edges and gifts."""
        stand = stand or first_stand(program)
        run = run_of(*steps)
        upto, given, needed = whole_record(program, stand, run)
        record = (upto, given if gifts is None else gifts, edges)
        other = stays(self, parting, program, stand, run, record)
        if other is None:
            self.assertEqual(open_of(program, stand, run, record), [])
            return False
        self.parts(program, stand, run, record, other)
        return True


class OneParting(Partings):
    def test_nothing_is_open(self):
        self.assertFalse(self.asked(program_of((PUT, GET)), ()))
        self.assertFalse(self.asked(program_of((PUT, GET)), (0, 0)))
        self.assertFalse(self.asked(program_of((GET,), (GET,)), (0, 1)))
        self.assertFalse(self.asked(program_of((CLOCK,)), ((0, 5),)))
        self.assertFalse(self.asked(program_of((PUT,), (GET,)), (0, 1), (((0, 0), (1, 0)),)))
        self.assertFalse(self.asked(program_of((PUT, SEND), (FETCH, GET)), (0, 0, 1, 1)))

    def test_a_gift_that_is_none(self):
        for row, gifts in ((CLOCK, (0, 1, 5, 999)), (("hear", "x", "d"), (0, 1, 999)), (("lot", "x", 2), (0, 1)),
                           (("lot", "x", 6), (0, 1, 5)), (("lot", "x", 1000), (0, 1, 999))):
            for gift in gifts:
                self.assertTrue(self.asked(program_of((row,)), ((0, gift),), (), ((None,),)))
                self.assertTrue(self.asked(program_of((PUT, row, CLOCK), (GET,)), (1, 0, (0, gift), (0, 7)), (((1, 0), (0, 0)),),
                                           ((None, 7), ())))

    def test_a_gift_among_several(self):
        program = program_of((CLOCK, CLOCK, CLOCK), (CLOCK,))
        steps = ((0, 1), (1, 4), (0, 2), (0, 3))
        for gifts in (((None, 2, 3), (4,)), ((1, None, 3), (4,)), ((1, 2, None), (4,)), ((1, 2, 3), (None,)), ((None,) * 3, (None,))):
            self.assertTrue(self.asked(program, steps, (), gifts))

    def test_a_put_and_a_get(self):
        self.assertTrue(self.asked(program_of((PUT,), (GET,)), (0, 1)))
        self.assertTrue(self.asked(program_of((SAY, PUT), (SAY, GET)), (0, 1, 0, 1), (((0, 0), (1, 0)),)))

    def test_a_put_and_a_put(self):
        self.assertTrue(self.asked(program_of((PUT,), (PUT,)), (0, 1)))
        self.assertTrue(self.asked(program_of((PUT,), (PUT,), (PUT,)), (2, 0, 1), (((2, 0), (0, 0)),)))

    def test_a_put_of_the_value_that_was_there(self):
        self.assertTrue(self.asked(program_of((("put", "b", ("num", 5)),), (GET,)), (0, 1)))
        self.assertTrue(self.asked(program_of((("put", "c", N0),), (("get", "x", "c"),)), (1, 0)))

    def test_a_put_behind_a_get(self):
        self.assertTrue(self.asked(program_of((GET,), (PUT,)), (0, 1)))
        self.assertTrue(self.asked(program_of((SAY, SAY, GET), (PUT,)), (0, 0, 0, 1)))
        self.assertTrue(self.asked(program_of((GET, GET), (PUT,)), (0, 0, 1)))
        self.assertTrue(self.asked(program_of((GET, GET), (PUT,)), (0, 0, 1), (((0, 0), (1, 0)),)))

    def test_a_put_behind_gets_of_which_one_brings_the_other(self):
        program = program_of((GET, SEND), (FETCH, GET), (PUT,))
        self.assertTrue(self.asked(program, (0, 0, 1, 1, 2)))
        self.assertTrue(self.asked(program, (0, 0, 1, 1, 2), (((0, 0), (2, 0)),)))
        self.assertFalse(self.asked(program, (0, 0, 1, 1, 2), (((1, 1), (2, 0)),)))

    def test_a_put_behind_a_get_that_makes_its_hand_go_otherwise(self):
        rows = (GET, ("leap", 3, ("same", X, ("num", 1))), TAKE, GET)
        self.assertTrue(self.asked(program_of(rows, (PUT,)), (0, 0, 0, 1)))
        self.assertTrue(self.asked(program_of(rows, (PUT,)), (0, 0, 0, 1), (((0, 0), (1, 0)),)))

    def test_takes_of_one_lock(self):
        program = program_of((TAKE, FREE), (TAKE, FREE), (TAKE, FREE))
        self.assertTrue(self.asked(program, (0, 0, 1, 1)))
        self.assertTrue(self.asked(program, (0, 0, 1)))
        self.assertTrue(self.asked(program, (0, 0, 1, 1, 2), (((0, 0), (1, 0)),)))
        self.assertTrue(self.asked(program, (0, 0, 1, 1, 2), (((1, 0), (2, 0)),)))
        self.assertTrue(self.asked(program, (0, 0, 1, 1, 2), (((0, 0), (2, 0)),)))
        self.assertFalse(self.asked(program, (0, 0, 1, 1, 2), (((0, 0), (1, 0)), ((1, 0), (2, 0)))))

    def test_takes_where_a_hold_goes_ahead(self):
        program = program_of((TAKE, SAY, FREE), (TAKE, SAY, FREE), (SAY, TAKE, FREE))
        edges = (((0, 1), (1, 1)), ((1, 1), (2, 0)))
        self.assertTrue(self.asked(program, (0, 0, 0, 1, 1, 1, 2, 2, 2), edges))

    def test_a_lock_that_was_held_at_the_stand(self):
        program = program_of((TAKE, SAY, FREE), (TAKE, FREE), (TAKE, FREE))
        stand = stand_behind(program, 0)
        self.assertFalse(self.asked(program, (0, 0, 1), (), None, stand))
        self.assertTrue(self.asked(program, (0, 0, 1, 1, 2), (), None, stand))

    def test_sends_fetches_and_says(self):
        for row in (SEND, SAY):
            self.assertTrue(self.asked(program_of((row,), (row,)), (0, 1)))
            self.assertTrue(self.asked(program_of((row, row), (row,)), (0, 1, 0), (((0, 0), (1, 0)),)))
            self.assertFalse(self.asked(program_of((row, row), (row,)), (0, 1, 0), (((0, 0), (1, 0)), ((1, 0), (0, 1)))))
        program = program_of((SEND, SEND), (FETCH,), (FETCH,))
        self.assertTrue(self.asked(program, (0, 0, 1, 2)))
        self.assertTrue(self.asked(program, (0, 1, 0, 2)))
        self.assertTrue(self.asked(program, (1, 2), (), None, stand_behind(program, 0, 0)))

    def test_of_several_the_one_that_comes_first(self):
        program = program_of((CLOCK, PUT, CLOCK), (GET, SEND, PUT), (SEND, GET, CLOCK))
        steps = ((0, 3), 0, 1, 1, 2, 2, 1, (0, 4), (2, 5))
        self.assertTrue(self.asked(program, steps))
        self.assertTrue(self.asked(program, steps, (), ((3, None), (), (None,))))
        self.assertTrue(self.asked(program, steps, (), ((None, 4), (), (5,))))

    def test_ahead_of_a_later_one_not_all_can_go_by_itself(self):
        # Both takes are ahead of the get, but no free: the takes' own order is open, and comes first.
        program = program_of((TAKE, FREE), (TAKE, FREE), (GET,), (PUT,))
        self.assertTrue(self.asked(program, (0, 0, 1, 1, 3, 2), (((0, 0), (2, 0)), ((1, 0), (2, 0)))))

    def test_from_stands_by_the_way(self):
        program = program_of((PUT, CLOCK, LOOP), (GET, SAY, LOOP))
        stand = stand_behind(program, 0, (0, 7), 1)
        self.assertTrue(self.asked(program, (0, 1, 1), (), None, stand))
        self.assertTrue(self.asked(program, (1, 1, 0, (0, 4)), (), None, stand))
        self.assertFalse(self.asked(program, (1, 0, (0, 4)), (), None, stand))

    def test_sixty_steps(self):
        program = program_of((PUT, LOOP), (GET, LOOP))
        stand = first_stand(program)
        run = run_of(*[0, 1] * 30)
        whole = whole_record(program, stand, run)
        for edge in (whole[2][0], whole[2][-1]):
            record = without_edge(whole, edge)
            self.parts(program, stand, run, record, parting(program, stand, run, record))
        self.assertIsNone(parting(program, stand, run, whole))

    def test_just_where_something_is_open(self):
        chance = random.Random(36)
        kinds = []
        for turn in range(500):
            program, stand, run = busy_scene(chance, most_steps=chance.choice([10, 20, 60]))
            record = random_record(chance, program, stand, run, whole_record(program, stand, run))
            other = stays(self, parting, program, stand, run, record)
            if is_enough(program, stand, run, record):
                self.assertIsNone(other)
                kinds.append(None)
            else:
                self.parts(program, stand, run, record, other)
                kinds.append(open_of(program, stand, run, record)[0][0])
        for kind in (None, "gift", "need"):
            self.assertGreater(kinds.count(kind), 30)

    def test_just_where_trying_all_finds_one(self):
        chance = random.Random(37)
        for turn in range(150):
            program, stand, run = busy_scene(chance, most_rows=6, most_steps=12, most_hands=3)
            record = random_record(chance, program, stand, run, whole_record(program, stand, run))
            other = parting(program, stand, run, record)
            self.assertIs(other is None, search(program, stand, run, record)[0] is None)

    def test_refusals(self):
        refuses_what_does_not_fit(self, parting, True)


class ByEntries(Partings):
    def told(self, program, stand, run, record):
        """The partings by entries, each being a right one."""
        told = stays(self, partings, program, stand, run, record)
        self.assertIs(type(told), list)
        for pair in told:
            self.assertIs(type(pair), tuple)
            entry, other = pair
            rest = without_edge(record, entry[1]) if entry[0] == "edge" else without_gift(record, entry[1], entry[2])
            if is_enough(program, stand, run, rest):
                self.assertIsNone(other)
            else:
                self.parts(program, stand, run, rest, other)
        edges = [("edge", edge) for edge in record[2]]
        gifts = [("gift", hand, n) for hand, gifts in enumerate(record[1]) for n, gift in enumerate(gifts) if gift is not None]
        same_kind(self, [pair[0] for pair in told], edges + gifts)
        return told

    def test_edges_then_gifts(self):
        program = program_of((CLOCK, PUT, CLOCK), (GET, CLOCK, PUT))
        stand = first_stand(program)
        run = run_of((0, 3), 0, 1, (1, 4), 1, (0, 5))
        record = ((3, 3), ((3, 5), (4,)), (((0, 0), (1, 2)), ((0, 1), (1, 0))))
        told = self.told(program, stand, run, record)
        self.assertEqual([(entry, other is None) for entry, other in told], [
            (("edge", ((0, 0), (1, 2))), True), (("edge", ((0, 1), (1, 0))), False),
            (("gift", 0, 0), False), (("gift", 0, 1), False), (("gift", 1, 0), False)])

    def test_gifts_that_are_none_already(self):
        program = program_of((CLOCK, CLOCK, CLOCK), (CLOCK,))
        stand = first_stand(program)
        run = run_of((0, 3), (0, 4), (0, 5), (1, 6))
        told = self.told(program, stand, run, ((3, 1), ((None, 4, None), (None,)), ()))
        self.assertEqual([entry for entry, other in told], [("gift", 0, 1)])

    def test_no_entries(self):
        program = program_of((PUT,), (PUT,))
        self.assertEqual(self.told(program, first_stand(program), run_of(0, 1), ((1, 1), ((), ()), ())), [])
        self.assertEqual(self.told(program, first_stand(program), (), ((0, 0), ((), ()), ())), [])

    def test_by_a_least_record_all_are_runs(self):
        chance = random.Random(38)
        met = 0
        for turn in range(80):
            program, stand, run = busy_scene(chance, most_steps=30)
            for entry, other in self.told(program, stand, run, least_record(program, stand, run)):
                self.assertIsNotNone(other)
                met += 1
        self.assertGreater(met, 200)

    def test_by_any_record(self):
        chance = random.Random(39)
        for turn in range(80):
            program, stand, run = busy_scene(chance, most_steps=25)
            record = random_record(chance, program, stand, run, whole_record(program, stand, run))
            told = self.told(program, stand, run, record)
            if is_enough(program, stand, run, record):
                self.assertEqual([entry[1] for entry, other in told if other is None], spare(program, stand, run, record))

    def test_what_is_told_is_the_askers_own(self):
        program = program_of((PUT,), (GET,))
        things = (program, first_stand(program), run_of(0, 1), ((1, 1), ((), ()), (((0, 0), (1, 0)),)))
        partings(*things).clear()
        self.assertEqual(len(partings(*things)), 1)

    def test_refusals(self):
        refuses_what_does_not_fit(self, partings, True)


if __name__ == "__main__":
    unittest.main()
