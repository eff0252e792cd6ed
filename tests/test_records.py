import random
import unittest

from helper import (N1, X, busy_scene, events_told, needs_by_the_words, odd_things, program_of, refused, run_of,
                    runs_refused, same_kind, stand_behind, stays)
from leastrecord.errors import NoFit, NoRun
from leastrecord.fitting import keeps
from leastrecord.records import is_record, whole_record, without_edge, without_gift
from leastrecord.runs import walked
from leastrecord.stands import first_stand

LOOPING = (("put", "b", X), ("get", "x", "b"), ("leap", 0, N1))
PROGRAM = program_of(LOOPING, LOOPING)
FIRST = first_stand(PROGRAM)
LATER = stand_behind(PROGRAM, 0, 0, 0, 1, 1)
GOOD = ((3, 2), ((5, None), ()), (((0, 0), (1, 1)), ((0, 2), (1, 0)), ((1, 1), (0, 2))))


def with_part(thing, way, part):
    """A tuple with another part at the end of a way of places."""
    if not way:
        return part
    return thing[:way[0]] + (with_part(thing[way[0]], way[1:], part),) + thing[way[0] + 1:]


def ways(thing):
    """The ways to all the parts of a tuple of tuples."""
    told = [()]
    if type(thing) is tuple:
        for place, part in enumerate(thing):
            told += [(place,) + way for way in ways(part)]
    return told


def at(thing, way):
    for place in way:
        thing = thing[place]
    return thing


def record_by_the_words(counts, thing):
    def tuple_of(one, many):
        return type(one) is tuple and len(one) == many

    if not (tuple_of(thing, 3) and tuple_of(thing[0], len(counts)) and tuple_of(thing[1], len(counts)) and type(thing[2]) is tuple):
        return False
    upto, gifts, edges = thing
    if not all(type(most) is int and most >= count for most, count in zip(upto, counts)):
        return False
    for hand in gifts:
        if type(hand) is not tuple or not all(gift is None or type(gift) is int and gift in range(1000) for gift in hand):
            return False
    for edge in edges:
        if not (tuple_of(edge, 2) and tuple_of(edge[0], 2) and tuple_of(edge[1], 2)):
            return False
        for hand, k in edge:
            if type(hand) is not int or hand not in range(len(counts)) or type(k) is not int or k not in range(counts[hand], upto[hand]):
                return False
        if edge[0][0] == edge[1][0]:
            return False
    return list(edges) == sorted(set(edges))


class IsRecord(unittest.TestCase):
    def asked(self, thing, told, program=PROGRAM, stand=FIRST):
        self.assertIs(stays(self, is_record, program, stand, thing), told)

    def test_ordinary_ones(self):
        self.asked(GOOD, True)
        self.asked(((0, 0), ((), ()), ()), True)
        self.asked(((9, 0), ((0, 999), (None, 3)), ()), True)
        one = program_of(())
        self.asked(((0,), ((),), ()), True, one, first_stand(one))
        four = program_of(LOOPING, (), (), LOOPING)
        self.asked(((1, 0, 0, 1), ((),) * 4, (((0, 0), (3, 0)), ((3, 0), (0, 0)))), True, four, first_stand(four))

    def test_bounds_of_what_is_handed_in_refuse_nothing(self):
        self.asked(((61, int("9" * 40)), ((7,) * 61, ()), ()), True)
        edges = tuple(((0, one), (1, other)) for one in range(21) for other in range(21))
        self.asked(((21, 21), ((), ()), edges), True)

    def test_upto_and_the_stands_counts(self):
        self.assertEqual(LATER[0], (3, 2))
        for upto, told in (((3, 2), True), ((4, 9), True), ((2, 2), False), ((3, 1), False), ((9, 0), False), ((-1, 5), False)):
            self.asked((upto, ((), ()), ()), told, stand=LATER)
        self.asked(((-1, 0), ((), ()), ()), False)

    def test_as_many_numbers_and_gifts_as_hands(self):
        for upto in ((), (3,), (3, 2, 0), 3, None, [3, 2], "ab", {0: 3, 1: 2}, (3, None), (3, "2"), (3, True), (True, 2), ((3,), 2), (3, [2])):
            self.asked((upto, ((), ()), ()), False)
        for gifts in ((), ((),), ((), (), ()), 0, None, [(), ()], "ab", {0: (), 1: ()}, ((), None), ((), []), ([], ()), ((), {}), ((), "")):
            self.asked(((3, 2), gifts, ()), False)

    def test_gifts(self):
        for gift in (0, 1, 999, None):
            self.asked(((3, 2), ((), (gift,)), ()), True)
            self.asked(((3, 2), ((gift, None, gift), ()), ()), True)
        for gift in odd_things():
            good = gift is None or (type(gift) is int and 0 <= gift <= 999)
            self.asked(((3, 2), ((1, gift), ()), ()), good)
            self.asked(((3, 2), ((), (None, gift, 2)), ()), good)

    def test_edges_of_unlike_hands_within_bounds(self):
        for edge, told in ((((0, 0), (1, 0)), True), (((1, 1), (0, 2)), True), (((0, 2), (1, 1)), True),
                           (((0, 0), (0, 1)), False), (((1, 0), (1, 0)), False), (((0, 3), (1, 0)), False), (((0, 0), (1, 2)), False),
                           (((0, -1), (1, 0)), False), (((2, 0), (1, 0)), False), (((0, 0), (2, 0)), False), (((-1, 0), (0, 0)), False),
                           (((0, 0), (-1, 0)), False)):
            self.asked(((3, 2), ((), ()), (edge,)), told)
        for edge, told in ((((0, 3), (1, 2)), True), (((1, 3), (0, 4)), True), (((0, 2), (1, 2)), False), (((0, 3), (1, 1)), False),
                           (((0, 5), (1, 2)), False), (((0, 3), (1, 4)), False)):
            self.asked(((5, 4), ((), ()), (edge,)), told, stand=LATER)
        self.asked(((3, 2), ((), ()), (((0, 2), (1, 2)),)), False, stand=LATER)

    def test_edges_rising_each_once(self):
        edges = GOOD[2]
        for wrong in (edges[::-1], edges + edges[-1:], edges[:1] + edges, (edges[1], edges[0], edges[2]), (edges[0], edges[2], edges[1])):
            self.asked(((3, 2), ((), ()), wrong), False)
        self.asked(((3, 2), ((), ()), (((0, 0), (1, 0)), ((0, 0), (1, 1)))), True)
        self.asked(((3, 2), ((), ()), (((0, 0), (1, 1)), ((0, 0), (1, 0)))), False)

    def test_truths_and_lists_within(self):
        for edge in (((False, 0), (1, 0)), ((0, False), (1, 0)), ((0, 0), (True, 0)), ((0, 0), (1, True)), ([0, 0], (1, 0)), ((0, 0), [1, 0]),
                     [(0, 0), (1, 0)], ((0, 0),), ((0, 0), (1, 0), (0, 1)), ((0,), (1, 0)), ((0, 0, 0), (1, 0)), ((0, 0), (1, None)),
                     ((0, 0), None), (None, (1, 0)), None, 0, "ab", {(0, 0): (1, 0)}, ()):
            self.asked(((3, 2), ((), ()), (edge,)), False)
        for edges in ([((0, 0), (1, 0))], [], {}, None, 0, "", {((0, 0), (1, 0)): 1}):
            self.asked(((3, 2), ((), ()), edges), False)

    def test_any_plain_thing(self):
        for thing in odd_things() + [GOOD[:2], GOOD + ((),), list(GOOD), (GOOD,), dict(enumerate(GOOD))]:
            self.asked(thing, False)

    def test_any_part_otherwise(self):
        told = []
        for way in ways(GOOD):
            part = at(GOOD, way)
            others = [list(part), part + (None,), part + part[:1], part[1:]] if type(part) is tuple else [str(part), (part,), [part]]
            for other in odd_things() + others + [2, 3, 4, 500]:
                thing = with_part(GOOD, way, other)
                told.append(record_by_the_words((0, 0), thing))
                self.asked(thing, told[-1])
        self.assertGreater(told.count(True), 30)
        self.assertGreater(told.count(False), 800)


class WholeRecord(unittest.TestCase):
    def test_counts_gifts_and_needs(self):
        program = program_of((("clock", "x"), ("put", "b", X), ("lot", "x", 6)), (("get", "y", "b"), ("hear", "y", "d")), ())
        run = run_of((0, 7), 0, 1, (1, 9), (0, 5))
        same_kind(self, stays(self, whole_record, program, first_stand(program), run), ((3, 2, 0), ((7, 5), (9,), ()), (((0, 1), (1, 0)),)))
        same_kind(self, whole_record(program, first_stand(program), run[:1]), ((1, 0, 0), ((7,), (), ()), ()))
        same_kind(self, whole_record(program, first_stand(program), ()), ((0, 0, 0), ((), (), ()), ()))

    def test_from_a_stand_by_the_way(self):
        program = program_of((("clock", "x"), ("put", "b", X), ("clock", "x")), (("get", "y", "b"), ("hear", "y", "d")))
        stand = stand_behind(program, (0, 7))
        same_kind(self, whole_record(program, stand, run_of(1, 0, (0, 3))), ((3, 1), ((3,), ()), (((1, 0), (0, 1)),)))
        same_kind(self, whole_record(program, stand, ()), ((1, 0), ((), ()), ()))

    def test_of_each_run_and_kept_by_it(self):
        chance = random.Random(31)
        for turn in range(150):
            program, stand, run = busy_scene(chance)
            touches = events_told(program, stand, run)
            told = stays(self, whole_record, program, stand, run)
            gifts = tuple(tuple(gift for one, gift in run if one == hand and gift is not None) for hand in range(len(program[4])))
            same_kind(self, told, (walked(program, stand, run)[0][0], gifts, needs_by_the_words(touches)))
            self.assertIs(is_record(program, stand, told), True)
            self.assertIs(keeps(program, stand, run, told), True)

    def test_what_is_no_run(self):
        for thing, told in runs_refused():
            refused(self, NoRun, told, whole_record, PROGRAM, FIRST, thing)
        whole = whole_record(PROGRAM, FIRST, run_of(*[0, 1] * 30))
        self.assertEqual(whole[0], (30, 30))


class Without(unittest.TestCase):
    def test_an_edge(self):
        one, two, three = GOOD[2]
        for edge, left in ((one, (two, three)), (two, (one, three)), (three, (one, two))):
            same_kind(self, stays(self, without_edge, GOOD, edge), (GOOD[0], GOOD[1], left))
        same_kind(self, without_edge(((1, 1), ((), ()), (((0, 0), (1, 0)),)), ((0, 0), (1, 0))), ((1, 1), ((), ()), ()))

    def test_an_edge_that_it_has_not(self):
        for edge in (((0, 0), (1, 0)), ((1, 1), (0, 0)), ((0, 1), (0, 2)), ((9, 9), (8, 8)), ((0, 0), (0, 0)), ((0, 99), (1, 10 ** 39))):
            refused(self, NoFit, (-1, "edge"), without_edge, GOOD, edge)
        refused(self, NoFit, (-1, "edge"), without_edge, ((0,), ((),), ()), ((0, 0), (1, 0)))
        refused(self, NoFit, (-1, "edge"), without_edge, without_edge(GOOD, GOOD[2][1]), GOOD[2][1])

    def test_a_gift(self):
        record = ((9, 9), ((5, None, 0), (7, 7)), GOOD[2])
        for hand, n, left in ((0, 0, ((None, None, 0), (7, 7))), (0, 2, ((5, None, None), (7, 7))), (1, 0, ((5, None, 0), (None, 7))),
                              (1, 1, ((5, None, 0), (7, None)))):
            same_kind(self, stays(self, without_gift, record, hand, n), (record[0], left, record[2]))

    def test_a_gift_that_it_has_not(self):
        record = ((9, 9), ((5, None, 0), (7, 7)), GOOD[2])
        for hand, n in ((0, 1), (0, 3), (1, 2), (0, -1), (0, -3), (1, -2), (2, 0), (-1, 0), (-2, 0), (9, 9), (-9, -9), (10 ** 39, 0), (0, 10 ** 39)):
            refused(self, NoFit, (-1, "gift"), without_gift, record, hand, n)
        refused(self, NoFit, (-1, "gift"), without_gift, without_gift(record, 0, 0), 0, 0)

    def test_entry_by_entry_till_none_is_left(self):
        chance = random.Random(32)
        for turn in range(30):
            program, stand, run = busy_scene(chance, most_steps=30)
            record = whole_record(program, stand, run)
            while record[2]:
                edge = chance.choice(record[2])
                record = stays(self, without_edge, record, edge)
                self.assertNotIn(edge, record[2])
                self.assertTrue(is_record(program, stand, record) and keeps(program, stand, run, record))
            for hand, gifts in enumerate(record[1]):
                for n in range(len(gifts)):
                    record = stays(self, without_gift, record, hand, n)
                    self.assertTrue(is_record(program, stand, record) and keeps(program, stand, run, record))
            self.assertEqual({gift for gifts in record[1] for gift in gifts} | {None}, {None})


if __name__ == "__main__":
    unittest.main()
