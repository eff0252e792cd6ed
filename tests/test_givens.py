import random
import unittest

from helper import (CLOCK, FETCH, FREE, GET, LOOP, PUT, SAY, SEND, TAKE, bent_claims, busy_scene, claim_of, events_in,
                    given_by_the_words, lessened_claims, needs_by_the_words, other_order, program_of, random_record, run_by, run_of,
                    same_kind, stand_behind, stays, touches_by_order, with_claim)
from leastrecord.aheads import aheads
from leastrecord.givens import ahead_fault, given_to, need_fault
from leastrecord.papers import paper_of
from leastrecord.records import whole_record
from leastrecord.stands import first_stand


class Papers(unittest.TestCase):
    def paper(self, program, steps, edges, stand=None):
        """(program, stand, record, paper) of a run of these steps with these edges."""
        stand = stand or first_stand(program)
        run = run_of(*steps)
        record = whole_record(program, stand, run)[:2] + (edges,)
        return program, stand, record, paper_of(program, stand, run, record)

    def random_papers(self, seed, many, most_steps=20):
        """Scenes with papers whose order, tables and edges are right."""
        chance = random.Random(seed)
        for turn in range(many):
            program, stand, run = busy_scene(chance, most_steps=most_steps)
            record = random_record(chance, program, stand, run, whole_record(program, stand, run))
            good = paper_of(program, stand, run, record)
            if chance.random() < 0.5:
                good = other_order(chance, program, stand, record, good)
            yield chance, program, stand, record, good


class GivenTo(Papers):
    def asked(self, scene, event, told):
        program, stand, record, paper = scene
        same_kind(self, stays(self, given_to, program, stand, record, paper, event[0], event[1]), told)
        self.assertEqual(given_by_the_words(program, stand, record, paper, event), told)

    def with_claims(self, scene, *pairs):
        program, stand, record, paper = scene
        for event, claim in pairs:
            paper = with_claim(stand, paper, event, claim)
        return program, stand, record, paper

    def test_its_own_number_and_the_stands_counts(self):
        program = program_of((SAY, LOOP), (GET, LOOP))
        scene = self.paper(program, (0, 0, 1, 0), ())
        for event, told in (((0, 0), (0, 0)), ((0, 1), (1, 0)), ((0, 2), (2, 0)), ((1, 0), (0, 0))):
            self.asked(scene, event, told)
        scene = self.paper(program, (0, 1, 0), (), stand_behind(program, 0, 1, 1))
        for event, told in (((0, 1), (1, 2)), ((0, 2), (2, 2)), ((1, 2), (1, 2))):
            self.asked(scene, event, told)

    def test_its_own_claim_gives_it_nothing(self):
        program = program_of((SAY, SAY), (GET, GET))
        scene = self.paper(program, (0, 0, 1, 1), ())
        self.asked(self.with_claims(scene, ((1, 1), (2, 2))), (1, 1), (0, 1))
        self.asked(self.with_claims(scene, ((1, 0), (2, 2))), (1, 0), (0, 0))
        self.asked(self.with_claims(scene, ((1, 1), (0, 0))), (1, 1), (0, 1))

    def test_later_touches_claims_give_nothing(self):
        program = program_of((SAY, SAY), (GET, GET))
        scene = self.paper(program, (0, 0, 1, 1), ())
        self.asked(self.with_claims(scene, ((1, 1), (2, 2))), (1, 0), (0, 0))

    def test_earlier_own_touches_claims(self):
        program = program_of((SAY, SAY), (GET, GET, GET))
        scene = self.paper(program, (0, 0, 1, 1, 1), ())
        scene = self.with_claims(scene, ((1, 0), (2, 0)))
        self.asked(scene, (1, 1), (2, 1))
        self.asked(scene, (1, 2), (2, 2))
        self.asked(self.with_claims(scene, ((1, 1), (0, 0))), (1, 2), (2, 2))

    def test_edges_bring_their_first_events_and_what_these_claim(self):
        program = program_of((CLOCK, LOOP), (CLOCK, LOOP), (CLOCK, LOOP))
        edges = (((0, 1), (1, 0)), ((2, 0), (0, 0)))
        scene = self.paper(program, ((2, 5), (2, 5), (0, 5), (0, 5), (0, 5), (1, 5), (1, 5)), edges)
        self.asked(scene, (0, 0), (0, 0, 1))
        self.asked(scene, (1, 0), (2, 0, 1))
        self.asked(scene, (1, 1), (2, 1, 1))
        # Of either of both touches below its number the claim is enough.
        self.asked(self.with_claims(scene, ((0, 0), (0, 0, 0))), (1, 0), (2, 0, 1))
        self.asked(self.with_claims(scene, ((0, 1), (0, 0, 0))), (1, 0), (2, 0, 1))
        self.asked(self.with_claims(scene, ((0, 0), (0, 0, 0)), ((0, 1), (0, 0, 0))), (1, 0), (2, 0, 0))
        self.asked(self.with_claims(scene, ((0, 1), (0, 0, 2))), (1, 0), (2, 0, 2))
        self.asked(self.with_claims(scene, ((0, 1), (3, 0, 0))), (1, 0), (3, 0, 1))
        self.asked(self.with_claims(scene, ((0, 2), (3, 0, 2))), (1, 0), (2, 0, 1))

    def test_several_edges(self):
        program = program_of((CLOCK, LOOP), (CLOCK, LOOP), (CLOCK, LOOP))
        edges = (((0, 0), (1, 0)), ((0, 1), (1, 0)), ((0, 2), (1, 1)), ((2, 0), (1, 0)), ((2, 1), (0, 0)))
        scene = self.paper(program, ((2, 5), (2, 5), (0, 5), (0, 5), (0, 5), (1, 5), (1, 5)), edges)
        self.asked(scene, (1, 0), (2, 0, 2))
        self.asked(scene, (1, 1), (3, 1, 2))
        self.asked(self.with_claims(scene, ((0, 0), (0, 0, 0)), ((0, 1), (0, 0, 0)), ((0, 2), (0, 0, 0))), (1, 0), (2, 0, 1))

    def test_a_touch_that_comes_in_by_a_claim_brings_its_own(self):
        program = program_of((CLOCK, LOOP), (CLOCK, LOOP), (CLOCK, LOOP), (CLOCK, LOOP))
        scene = self.paper(program, ((3, 5), (2, 5), (1, 5), (0, 5)), (((1, 0), (0, 0)), ((2, 0), (1, 0)), ((3, 0), (2, 0))))
        self.asked(scene, (0, 0), (0, 1, 1, 1))
        self.asked(self.with_claims(scene, ((1, 0), (0, 0, 1, 0))), (0, 0), (0, 1, 1, 1))
        self.asked(self.with_claims(scene, ((1, 0), (0, 0, 0, 1))), (0, 0), (0, 1, 0, 1))
        self.asked(self.with_claims(scene, ((2, 0), (0, 0, 0, 0)), ((1, 0), (0, 0, 1, 0))), (0, 0), (0, 1, 1, 0))

    def test_the_order_bounds_it(self):
        program = program_of((CLOCK, LOOP), (CLOCK, LOOP), (CLOCK, LOOP))
        steps = ((0, 5), (2, 5), (1, 5), (2, 5), (1, 5), (0, 5))
        scene = self.paper(program, steps, (((0, 0), (1, 0)),))
        for most in (9, 10 ** 39):
            scene = self.with_claims(scene, ((0, 0), (most, most, most)))
            self.asked(scene, (1, 0), (1, 0, 1))
            self.asked(scene, (1, 1), (1, 1, 2))
            self.asked(scene, (0, 1), (1, 2, 2))
            self.asked(scene, (0, 0), (0, 0, 0))
            self.asked(scene, (2, 1), (0, 0, 1))
        stand = stand_behind(program, (0, 1), (0, 1), (2, 1))
        scene = self.with_claims(self.paper(program, steps, (((0, 2), (1, 0)),), stand), ((0, 2), (9, 9, 9)))
        self.asked(scene, (1, 0), (3, 0, 2))
        self.asked(scene, (0, 3), (3, 2, 3))

    def test_the_bound_is_by_the_paper_s_order(self):
        program = program_of((CLOCK, LOOP), (CLOCK, LOOP), (CLOCK, LOOP))
        program, stand, record, paper = self.paper(program, ((0, 5), (2, 5), (1, 5), (2, 5)), (((0, 0), (1, 0)),))
        paper = with_claim(stand, paper, (0, 0), (9, 9, 9))
        for order, most in (((0, 1, 2, 2), 0), ((0, 2, 1, 2), 1), ((2, 0, 2, 1), 2), ((2, 2, 0, 1), 2)):
            self.asked((program, stand, record, (order,) + paper[1:]), (1, 0), (1, 0, most))

    def test_a_claim_below_the_stands_counts(self):
        program = program_of((CLOCK, LOOP), (CLOCK, LOOP))
        stand = stand_behind(program, (0, 1), (0, 1), (1, 1))
        scene = self.paper(program, ((0, 5), (1, 5), (1, 5)), (((0, 2), (1, 1)),), stand)
        scene = self.with_claims(scene, ((0, 2), (0, 0)), ((1, 1), (0, 0)))
        self.asked(scene, (1, 1), (3, 1))
        self.asked(scene, (1, 2), (2, 2))

    def test_letters_bring_sends(self):
        program = program_of((PUT, SEND, SAY, SEND), (FETCH, FETCH), (FETCH,))
        scene = self.paper(program, (0, 0, 0, 0, 1, 1), ())
        self.asked(scene, (1, 0), (2, 0, 0))
        self.asked(scene, (1, 1), (4, 1, 0))
        scene = self.paper(program, (0, 0, 0, 0, 1, 2), ())
        self.asked(scene, (2, 0), (2, 0, 0))
        scene = self.paper(program, (0, 0, 0, 0, 1, 2), (((1, 0), (2, 0)),))
        self.asked(scene, (2, 0), (4, 1, 0))

    def test_a_fetch_that_a_claim_brings_brings_a_send(self):
        program = program_of((SEND, CLOCK, SEND), (FETCH, SAY), (FETCH,), (SEND, CLOCK))
        scene = self.paper(program, (0, (0, 5), 0, 1, 1, (3, None), (3, 5), 2), (((3, 1), (2, 0)),))
        self.asked(scene, (2, 0), (1, 0, 0, 2))
        scene = self.with_claims(scene, ((3, 0), (0, 1, 0, 0)))
        self.asked(scene, (2, 0), (3, 1, 0, 2))

    def test_letters_by_several_hands(self):
        program = program_of((SEND,), (SEND,), (FETCH, FETCH), (SEND, FETCH))
        scene = self.paper(program, (1, 0, 3, 2, 2, 3), ())
        self.asked(scene, (2, 0), (0, 1, 0, 0))
        self.asked(scene, (2, 1), (1, 1, 1, 0))
        self.asked(scene, (3, 1), (0, 1, 0, 1))
        scene = self.paper(program, (1, 0, 3, 2, 2, 3), (((2, 0), (3, 1)),))
        self.asked(scene, (3, 1), (1, 1, 1, 1))

    def test_letters_of_other_lanes(self):
        program = program_of((SEND, ("send", "o", ("num", 3))), (FETCH, ("fetch", "x", "o")))
        scene = self.paper(program, (0, 0, 1, 1), ())
        self.asked(scene, (1, 0), (1, 0))
        self.asked(scene, (1, 1), (2, 1))

    def test_letters_that_were_sent_and_fetched_ahead_of_the_stand(self):
        program = program_of((SEND, SEND, SEND, SEND, SAY), (FETCH, FETCH, FETCH), (FETCH,))
        stand = stand_behind(program, 0, 0, 1)
        scene = self.paper(program, (0, 0, 0, 1, 1, 2), (), stand)
        self.asked(scene, (1, 1), (2, 1, 0))
        self.asked(scene, (1, 2), (3, 2, 0))
        self.asked(scene, (2, 0), (2, 1, 0))
        self.asked(self.paper(program, (0, 0, 0, 1, 1, 2), (((1, 1), (2, 0)),), stand), (2, 0), (3, 2, 0))
        self.asked(self.paper(program, (0, 0, 0, 1, 1, 2), (((1, 2), (2, 0)),), stand), (2, 0), (4, 3, 0))

    def test_locks_bring_frees(self):
        program = program_of((TAKE, SAY, FREE), (TAKE, FREE), (CLOCK, TAKE))
        steps = (0, 0, 0, 1, 1, (2, 5), 2)
        self.asked(self.paper(program, steps, ()), (1, 0), (0, 0, 0))
        scene = self.paper(program, steps, (((0, 0), (1, 0)),))
        self.asked(scene, (1, 0), (3, 0, 0))
        self.asked(scene, (2, 1), (0, 0, 1))
        scene = self.paper(program, steps, (((0, 1), (1, 0)), ((1, 0), (2, 0))))
        self.asked(scene, (1, 0), (3, 0, 0))
        self.asked(scene, (2, 1), (3, 2, 1))
        # The first one's take comes in by what the second one's claims.
        fewer = self.with_claims(scene, ((1, 1), (0, 0, 0)), ((2, 0), (0, 1, 0)))
        self.asked(self.with_claims(fewer, ((1, 0), (1, 0, 0))), (2, 1), (3, 2, 1))
        self.asked(self.with_claims(fewer, ((1, 0), (0, 0, 0))), (2, 1), (0, 2, 1))
        self.asked(self.with_claims(fewer, ((2, 0), (0, 0, 0))), (2, 1), (0, 0, 1))

    def test_only_takes_by_other_hands_that_are_in(self):
        program = program_of((TAKE, FREE, TAKE, FREE), (TAKE, FREE))
        scene = self.paper(program, (0, 0, 0, 0, 1, 1), ())
        self.asked(scene, (0, 2), (2, 0))
        self.asked(scene, (1, 0), (0, 0))
        scene = self.paper(program, (0, 0, 1, 1, 0, 0), (((0, 0), (1, 0)),))
        self.asked(scene, (0, 2), (2, 0))
        self.asked(scene, (1, 0), (2, 0))

    def test_each_takes_first_free(self):
        program = program_of((TAKE, FREE, SAY, TAKE, FREE), (TAKE, FREE))
        steps = (0, 0, 0, 0, 0, 1)
        self.asked(self.paper(program, steps, (((0, 0), (1, 0)),)), (1, 0), (2, 0))
        self.asked(self.paper(program, steps, (((0, 2), (1, 0)),)), (1, 0), (3, 0))
        self.asked(self.paper(program, steps, (((0, 3), (1, 0)),)), (1, 0), (5, 0))

    def test_takes_of_other_locks(self):
        program = program_of((TAKE, ("take", "m"), ("free", "m"), FREE), (("take", "m"), TAKE))
        steps = (0, 0, 0, 0, 1, 1)
        self.asked(self.paper(program, steps, (((0, 0), (1, 0)),)), (1, 0), (1, 0))
        self.asked(self.paper(program, steps, (((0, 1), (1, 0)),)), (1, 0), (3, 0))
        self.asked(self.paper(program, steps, (((0, 0), (1, 0)),)), (1, 1), (4, 1))

    def test_a_lock_that_another_hand_held_at_the_stand(self):
        program = program_of((TAKE, SAY, FREE, TAKE, FREE), (TAKE, FREE), (TAKE, FREE))
        stand = stand_behind(program, 0)
        scene = self.paper(program, (0, 0, 1, 1, 0, 0), (), stand)
        self.asked(scene, (1, 0), (3, 0, 0))
        self.asked(scene, (0, 3), (3, 0, 0))
        scene = self.paper(program, (0, 0, 1, 1, 2), (((0, 1), (2, 0)),), stand)
        self.asked(scene, (2, 0), (3, 0, 0))
        scene = self.paper(program, (0, 0, 1, 1, 2), (((1, 0), (2, 0)),), stand)
        self.asked(scene, (2, 0), (3, 2, 0))
        self.asked(self.with_claims(scene, ((0, 2), (0, 1, 0))), (1, 0), (3, 0, 0))

    def test_a_lock_freed_ahead_of_the_stand(self):
        program = program_of((TAKE, FREE, SAY), (TAKE, FREE))
        stand = stand_behind(program, 0, 0)
        self.asked(self.paper(program, (0, 1), (), stand), (1, 0), (2, 0))

    def test_a_put_brings_nothing_by_itself(self):
        program = program_of((PUT, SAY), (GET, PUT), (SAY,))
        scene = self.paper(program, (0, 0, 1, 1, 2), ())
        for event, told in (((1, 0), (0, 0, 0)), ((1, 1), (0, 1, 0)), ((2, 0), (0, 0, 0))):
            self.asked(scene, event, told)

    def test_with_a_runs_own_claims_it_is_the_runs_aheads(self):
        for chance, program, stand, record, paper in self.random_papers(42, 60):
            for event in events_in(stand, paper[0]):
                told = stays(self, given_to, program, stand, record, paper, event[0], event[1])
                same_kind(self, told, claim_of(stand, paper, event))

    def test_with_whatever_claims(self):
        met = 0
        for chance, program, stand, record, paper in self.random_papers(43, 120, 30):
            other = lessened_claims(chance, paper) if chance.random() < 0.4 else bent_claims(chance, paper, 8)
            for event in events_in(stand, paper[0]):
                told = stays(self, given_to, program, stand, record, other, event[0], event[1])
                same_kind(self, told, given_by_the_words(program, stand, record, other, event))
                met += told != claim_of(stand, paper, event)
        self.assertGreater(met, 150)


class AheadFault(Papers):
    def asked(self, scene, told):
        same_kind(self, stays(self, ahead_fault, *scene), told)

    def test_papers_of_runs_have_none(self):
        for chance, program, stand, record, paper in self.random_papers(44, 80):
            self.asked((program, stand, record, paper), None)
        self.asked(self.paper(program_of((SAY,)), (), ()), None)

    def test_a_claim_raised_by_one(self):
        for chance, program, stand, record, paper in self.random_papers(45, 25, 14):
            for event in events_in(stand, paper[0]):
                claim = claim_of(stand, paper, event)
                for hand in range(len(claim)):
                    raised = claim[:hand] + (claim[hand] + 1,) + claim[hand + 1:]
                    self.asked((program, stand, record, with_claim(stand, paper, event, raised)), event)

    def test_a_claim_that_others_need_lowered(self):
        program = program_of((CLOCK, LOOP), (CLOCK, LOOP), (CLOCK, LOOP))
        scene = self.paper(program, ((0, 5), (1, 5), (2, 5), (2, 5)), (((0, 0), (1, 0)), ((1, 0), (2, 0))))
        program, stand, record, paper = scene
        self.assertEqual(claim_of(stand, paper, (2, 0)), (1, 1, 0))
        self.asked((program, stand, record, with_claim(stand, paper, (1, 0), (0, 0, 0))), (2, 0))
        lower = with_claim(stand, with_claim(stand, paper, (1, 0), (0, 0, 0)), (2, 0), (0, 1, 0))
        self.asked((program, stand, record, lower), (2, 1))
        self.asked((program, stand, record, with_claim(stand, lower, (2, 1), (0, 1, 1))), None)
        self.asked((program, stand, record, with_claim(stand, paper, (2, 0), (0, 0, 0))), (2, 1))
        self.asked((program, stand, record, with_claim(stand, paper, (2, 1), (0, 0, 0))), None)

    def test_all_claims_0(self):
        for chance, program, stand, record, paper in self.random_papers(46, 30):
            none = tuple(tuple((0,) * len(stand[0]) for claim in part) for part in paper[2])
            self.asked((program, stand, record, paper[:2] + (none,)), None)

    def test_of_several_the_least_hands_least_number(self):
        program = program_of((CLOCK, LOOP), (CLOCK, LOOP))
        scene = self.paper(program, ((0, 5), (1, 5), (0, 5), (1, 5), (0, 5)), ())
        program, stand, record, paper = scene
        for events, told in ((((1, 1), (0, 2)), (0, 2)), (((0, 2), (0, 1), (1, 0)), (0, 1)), (((1, 1), (1, 0)), (1, 0)), (((0, 0), (1, 0)), (0, 0))):
            for turned in (events, events[::-1]):
                bent = paper
                for event in turned:
                    bent = with_claim(stand, bent, event, (9, 9))
                self.asked((program, stand, record, bent), told)

    def test_a_number_for_its_own_hand(self):
        program = program_of((CLOCK, LOOP), (CLOCK, LOOP))
        stand = stand_behind(program, (0, 3), (0, 3))
        program, stand, record, paper = self.paper(program, ((0, 5), (1, 5), (0, 5)), (), stand)
        for number, told in ((0, None), (2, None), (3, None), (4, (0, 3)), (10 ** 39, (0, 3))):
            self.asked((program, stand, record, with_claim(stand, paper, (0, 3), (number, 0))), told)
        for number, told in ((0, None), (2, None), (3, (1, 0)), (10 ** 39, (1, 0))):
            self.asked((program, stand, record, with_claim(stand, paper, (1, 0), (number, 0))), told)

    def test_whatever_claims(self):
        answers = []
        for chance, program, stand, record, paper in self.random_papers(47, 150, 14):
            other = lessened_claims(chance, paper) if chance.random() < 0.5 else bent_claims(chance, paper, 4)
            faults = []
            for event in events_in(stand, paper[0]):
                given = given_by_the_words(program, stand, record, other, event)
                if any(number > most for number, most in zip(claim_of(stand, other, event), given)):
                    faults.append(event)
            answers.append(min(faults, default=None))
            self.asked((program, stand, record, other), answers[-1])
        self.assertGreater(answers.count(None), 20)
        self.assertGreater(len(set(answers)), 12)


class NeedFault(Papers):
    def asked(self, scene, told):
        program, stand, record, paper = scene
        same_kind(self, stays(self, need_fault, program, stand, paper), told)

    def each(self, rows, steps, edge, stand_steps=()):
        """By this edge there is no fault, without it the edge's second is one."""
        program = program_of(*rows)
        stand = stand_behind(program, *stand_steps)
        self.asked(self.paper(program, steps, (edge,), stand), None)
        self.asked(self.paper(program, steps, (), stand), edge[1])

    def test_each_kind_of_need(self):
        edge = ((0, 0), (1, 0))
        self.each(((PUT,), (GET,)), (0, 1), edge)
        self.each(((PUT,), (PUT,)), (0, 1), edge)
        self.each(((GET,), (PUT,)), (0, 1), edge)
        self.each(((TAKE, FREE), (TAKE,)), (0, 0, 1), edge)
        self.each(((SEND,), (SEND,)), (0, 1), edge)
        self.each(((SAY,), (SAY,)), (0, 1), edge)
        self.each(((FETCH,), (FETCH,), (SEND, SEND)), (2, 2, 0, 1), edge)

    def test_from_a_stand_by_the_way(self):
        self.each(((PUT, LOOP), (GET, LOOP)), (0, 1), ((0, 2), (1, 1)), (0, 1, 0))
        self.each(((SAY, LOOP), (SAY, LOOP)), (1, 0), ((1, 1), (0, 2)), (0, 1, 0))
        program = program_of((PUT, LOOP), (GET, LOOP))
        self.asked(self.paper(program, (1, 1), (), stand_behind(program, 0)), None)

    def test_the_number_has_to_be_above_the_others(self):
        program = program_of((CLOCK, PUT, CLOCK), (GET,))
        program, stand, record, paper = self.paper(program, ((0, 5), 0, (0, 5), 1), (((0, 2), (1, 0)),))
        for number, told in ((0, (1, 0)), (1, (1, 0)), (2, None), (3, None)):
            self.asked((program, stand, record, with_claim(stand, paper, (1, 0), (number, 0))), told)

    def test_what_a_touch_does_not_need_it_need_not_claim(self):
        program = program_of((PUT, CLOCK), (FETCH, CLOCK), (SEND,))
        program, stand, record, paper = self.paper(program, (0, (0, 5), 2, 1, (1, 5)), (((0, 1), (1, 0)),))
        none = tuple(tuple((0, 0, 0) for claim in part) for part in paper[2])
        self.asked((program, stand, record, paper[:2] + (none,)), None)

    def test_of_several_the_least_hands_least_number(self):
        program = program_of((SAY, PUT), (GET, SAY), (GET, PUT, SAY))
        steps = (0, 0, 1, 1, 2, 2, 2)
        self.asked(self.paper(program, steps, ()), (1, 0))
        self.asked(self.paper(program, steps, (((0, 1), (1, 0)),)), (2, 0))
        self.asked(self.paper(program, steps, (((0, 1), (2, 0)),)), (1, 0))
        self.asked(self.paper(program, steps, (((0, 1), (1, 0)), ((0, 1), (2, 0)))), (2, 1))
        self.asked(self.paper(program, steps, (((0, 1), (1, 0)), ((1, 0), (2, 0)))), (2, 2))
        self.asked(self.paper(program, steps, (((0, 1), (1, 0)), ((1, 1), (2, 0)))), None)
        program = program_of((GET,), (PUT,))
        self.asked(self.paper(program, (1, 0), ()), (0, 0))

    def test_all_claims_0(self):
        met = 0
        for chance, program, stand, record, paper in self.random_papers(48, 60):
            none = tuple(tuple((0,) * len(stand[0]) for claim in part) for part in paper[2])
            seconds = [b for a, b in needs_by_the_words(touches_by_order(stand, paper))]
            met += bool(seconds)
            self.asked((program, stand, record, paper[:2] + (none,)), min(seconds, default=None))
        self.assertGreater(met, 20)

    def test_whatever_claims(self):
        answers = []
        for chance, program, stand, record, paper in self.random_papers(49, 150):
            other = paper if chance.random() < 0.3 else lessened_claims(chance, paper)
            faults = [b for a, b in needs_by_the_words(touches_by_order(stand, other)) if claim_of(stand, other, b)[a[0]] <= a[1]]
            answers.append(min(faults, default=None))
            self.asked((program, stand, record, other), answers[-1])
        self.assertGreater(answers.count(None), 20)
        self.assertGreater(len(set(answers)), 12)

    def test_claims_by_the_runs_own_aheads(self):
        for chance, program, stand, record, paper in self.random_papers(50, 30):
            self.assertEqual(len(paper[2]), len(stand[0]))
            whole = whole_record(program, stand, run_by(paper))
            full = paper[:2] + (aheads(program, stand, run_by(paper), whole),)
            self.asked((program, stand, whole, full), None)


if __name__ == "__main__":
    unittest.main()
