"""What is promised over the whole program, each part of it handed on to the next."""

import random
import unittest

from helper import busy_scene, other_order, random_record, refused, same_kind, search
from leastrecord.checker import lets
from leastrecord.cuts import counts_at, cut, is_cut
from leastrecord.errors import LeastError, NoFit, NoPaper
from leastrecord.fitting import keeps, misfit
from leastrecord.joins import joined
from leastrecord.judging import judged, lets_parts
from leastrecord.leading import Lead
from leastrecord.least import least_record
from leastrecord.leftout import left_out, lets_left
from leastrecord.opens import is_enough
from leastrecord.papers import paper_of
from leastrecord.papertexts import paper_lines, read_paper
from leastrecord.partings import partings
from leastrecord.reading import read
from leastrecord.recordtexts import read_record, record_lines
from leastrecord.records import is_record, whole_record
from leastrecord.runs import parted, tables_of, walked
from leastrecord.showing import shown


def small_scenes(seed, many, most_steps=9):
    chance = random.Random(seed)
    for turn in range(many):
        program, stand, run = busy_scene(chance, most_rows=5, most_steps=most_steps, most_hands=3)
        yield chance, program, stand, run


class ByRecordAndPaper(unittest.TestCase):
    def test_every_run_that_fits_tells_the_papers_looks(self):
        met = 0
        for chance, program, stand, run in small_scenes(160, 80):
            record = random_record(chance, program, stand, run, whole_record(program, stand, run))
            paper = read_paper(paper_lines(other_order(chance, program, stand, record, paper_of(program, stand, run, record))))
            try:
                lets(program, stand, record, paper)
            except NoPaper:
                continue
            met += len(run) > 3
            self.tells_the_looks(program, stand, record, paper)
        self.assertGreater(met, 20)

    def tells_the_looks(self, program, stand, record, paper):
        """Every run that fits, as it is led with every choice: alike, never still, and all ends are one."""
        lead = Lead(program, stand, record)
        ends = []

        def go_on():
            told = tables_of(program, stand, lead.run_now())
            for looks, right in zip(told, paper[1]):
                self.assertEqual(looks, right[:len(looks)])
            free = lead.can()
            if not free:
                self.assertIs(keeps(program, stand, lead.run_now(), record), True)
                self.assertEqual(lead.waiting(), [])
                ends.append(lead.stand_now())
            for hand in free if len(ends) < 40 else free[:1]:
                lead.go(hand)
                go_on()
                lead.back()

        go_on()
        self.assertEqual(len(set(ends)), 1)

    def test_just_one_of_both_can_be(self):
        words = []
        for chance, program, stand, run in small_scenes(161, 120):
            record = random_record(chance, program, stand, run, whole_record(program, stand, run))
            word, thing = judged(program, stand, run, record)
            words.append(word)
            other = search(program, stand, run, record)[0]
            if word == "paper":
                self.assertIs(lets(program, stand, record, thing), True)
                self.assertIsNone(other)
            else:
                self.assertIs(lets_parts(program, stand, run, record, thing), True)
                self.assertIs(lets_parts(program, stand, run, record, other), True)
                with self.assertRaises(NoPaper):
                    lets(program, stand, record, paper_of(program, stand, run, record))
        self.assertEqual(set(words), {"paper", "parts"})

    def test_of_a_least_record_no_entry_can_be_left_out(self):
        met = 0
        for chance, program, stand, run in small_scenes(162, 60, 20):
            record = least_record(program, stand, run)
            self.assertIs(is_enough(program, stand, run, record), True)
            for entry, other in partings(program, stand, run, record):
                if entry[0] == "edge":
                    rest = (record[0], record[1], tuple(edge for edge in record[2] if edge != entry[1]))
                else:
                    gifts = [list(part) for part in record[1]]
                    gifts[entry[1]][entry[2]] = None
                    rest = (record[0], tuple(tuple(part) for part in gifts), record[2])
                met += 1
                self.assertIs(lets_parts(program, stand, run, rest, other), True)
                # It breaks the record by this entry alone.
                self.assertIsNotNone(misfit(program, stand, other, record))
        self.assertGreater(met, 60)


class LedAgain(unittest.TestCase):
    def test_the_run_comes_whichever_hand_goes_first(self):
        for chance, program, stand, run in small_scenes(163, 60, 14):
            record = read_record(record_lines(least_record(program, stand, run)))
            tables = tables_of(program, stand, run)
            end = walked(program, stand, run)[0]
            for turn in range(4):
                lead = Lead(program, stand, record)
                places = {}
                for deed in range(12):
                    lead.to(chance.randrange(lead.trail() + 1))
                    if chance.random() < 0.5 and lead.can():
                        lead.go(chance.choice(lead.can()))
                        places = {place: told for place, told in places.items() if place < lead.made()}
                    told = (lead.stand_now(), lead.run_now(), lead.can())
                    same_kind(self, places.setdefault(lead.made(), told), told)
                    self.assertIsNone(parted(program, stand, run, lead.run_now()))
                lead.led([chance.randrange(100) for pick in range(20)])
                self.assertEqual((tables_of(program, stand, lead.run_now()), lead.stand_now(), lead.waiting()), (tables, end, []))
                while lead.made():
                    lead.back()
                self.assertEqual(lead.stand_now(), stand)
                while lead.made() < lead.trail():
                    lead.on()
                self.assertEqual(lead.stand_now(), end)

    def test_a_bent_record_is_refused_or_led_as_far_as_it_lets(self):
        answers = []
        for chance, program, stand, run in small_scenes(164, 200):
            lines = record_lines(whole_record(program, stand, run))
            row = chance.randrange(len(lines))
            words = lines[row].split(" ")
            words[chance.randrange(len(words))] = chance.choice(["0", "1", "2", "3", "-", "7", "1000", "x"])
            lines[row] = " ".join(words)
            try:
                record = read_record(lines)
            except LeastError:
                answers.append("lines")
                continue
            if not is_record(program, stand, record):
                answers.append("none")
                continue
            lead = Lead(program, stand, record)
            lead.led([chance.randrange(9) for pick in range(12)])
            self.assertIsNone(misfit(program, stand, lead.run_now(), record))
            self.assertEqual(lead.can(), [])
            for hand, word, what in lead.waiting():
                with self.assertRaises(LeastError):
                    lead.go(hand)
            answers.append("all" if lead.waiting() == [] else "some")
            if misfit(program, stand, run, record) is not None:
                fault = misfit(program, stand, run, record)
                refused(self, NoFit, fault, judged, program, stand, run, record)
        for word in ("lines", "none", "all", "some"):
            self.assertGreater(answers.count(word), 5, word)


class CutJoinedAndLeft(unittest.TestCase):
    def test_pieces(self):
        for chance, program, stand, run in small_scenes(165, 60, 16):
            record = least_record(program, stand, run)
            for place in range(len(run) + 1):
                counts = counts_at(stand, run, place)
                self.assertIs(is_cut(program, stand, run, record, counts), True)
                (begin, first), (middle, rest, second) = cut(program, stand, run, record, counts)
                for start, piece, its_record in ((stand, begin, first), (middle, rest, second)):
                    word, paper = judged(program, start, piece, its_record)
                    self.assertEqual(word, "paper")
                    self.assertIs(lets(program, start, its_record, paper), True)
                whole = joined(program, stand, (begin, first), (rest, second))
                self.assertEqual(judged(program, stand, whole[0], whole[1])[0], "paper")

    def test_hands_left_out(self):
        words = []
        for chance, program, stand, run in small_scenes(166, 160, 16):
            for hand in range(len(stand[0])):
                told = left_out(program, stand, run, (hand,))
                words.append(told[0])
                self.assertIs(lets_left(program, stand, run, (hand,), told), True)
                if told[0] == "left":
                    lead = Lead(program, stand, told[2])
                    lead.led([chance.randrange(9) for pick in range(16)])
                    values = [[look[:3] for look in looks] for looks in tables_of(program, stand, lead.run_now())]
                    right = [[look[:3] for look in looks] for looks in tables_of(program, stand, run)]
                    right[hand] = []
                    self.assertEqual(values, right)
        self.assertGreater(min(words.count("left"), words.count("seen")), 15)


class HandedInAgain(unittest.TestCase):
    def test_all_goes_through_lines(self):
        for chance, program, stand, run in small_scenes(167, 40, 14):
            same_kind(self, read(shown(program)), program)
            record = least_record(program, stand, run)
            same_kind(self, read_record(record_lines(record)), record)
            paper = judged(program, stand, run, record)[1]
            same_kind(self, read_paper(paper_lines(paper)), paper)
            self.assertIs(lets(read(shown(program)), stand, read_record(record_lines(record)), read_paper(paper_lines(paper))), True)


if __name__ == "__main__":
    unittest.main()
