import random
import re
import unittest

from helper import bent_lines, busy_scene, refused, same_kind, stays
from leastrecord.checker import lets
from leastrecord.errors import NoLines
from leastrecord.papers import paper_of
from leastrecord.papertexts import paper_lines, read_paper
from leastrecord.records import whole_record
from leastrecord.words import is_name

NUMBER = "(?:0|[1-9][0-9]{0,39})"
KINDS = ("get", "put", "take", "free", "send", "fetch", "say", "clock", "lot", "hear")
PAPER = ((0, 1, 0, 1),
         ((("put", "b", 1, None), ("clock", "", 7, None)), (("get", "b", 1, (0, 0)), ("say", "gate", 12, 3))),
         (((0, 0), (1, 0)), ((1, 0), (1, 1))))
LINES = ["paper 2", "order 0 1 0 1", "hand", "put b 1 - 0 0", "clock - 7 - 1 0", "hand", "get b 1 0.0 1 0", "say gate 12 3 1 1"]


def first_wrong_row(lines):
    """The row of the first line that can't stand where it does, None where all can; each line looked at as a whole."""
    if not lines or not re.fullmatch("paper [1-4]", lines[0]):
        return 0
    many = int(lines[0][-1])
    if len(lines) == 1 or not re.fullmatch(f"order(?: {NUMBER})*", lines[1]):
        return 1
    begun = 0
    form = f"([a-z]+) (-|[a-z]+) (?:-|{NUMBER}) (?:-|{NUMBER}|{NUMBER}\\.{NUMBER})(?: {NUMBER}){{{many}}}"
    for row, line in enumerate(lines[2:], start=2):
        if line == "hand" and begun < many:
            begun += 1
            continue
        match = re.fullmatch(form, line)
        if begun == 0 or not match or match[1] not in KINDS or not (match[2] == "-" or is_name(match[2])):
            return row
    return None if begun == many else len(lines)


class Written(unittest.TestCase):
    def asked(self, paper, lines):
        same_kind(self, stays(self, paper_lines, paper), lines)
        same_kind(self, stays(self, read_paper, lines), paper)

    def test_an_ordinary_paper(self):
        self.asked(PAPER, LINES)

    def test_no_touches(self):
        self.asked(((), ((),), ((),)), ["paper 1", "order", "hand"])
        self.asked(((), ((), (), (), ()), ((), (), (), ())), ["paper 4", "order", "hand", "hand", "hand", "hand"])
        self.asked(((1,), ((), (("take", "l", None, None),), ()), ((), ((0, 0, 0),), ())),
                   ["paper 3", "order 1", "hand", "hand", "take l - - 0 0 0", "hand"])

    def test_each_kind_of_look(self):
        looks = (("get", "b", 5, None), ("get", "b", 5, (3, 12)), ("put", "b", 999, (0, 0)), ("take", "l", None, None), ("take", "l", None, (1, 2)),
                 ("free", "l", None, None), ("send", "n", 0, 0), ("fetch", "n", 3, 10), ("say", "abcdefgh", 4, 2), ("clock", "", 0, None),
                 ("lot", "", 1, None), ("hear", "d", 999, None))
        lines = ["get b 5 -", "get b 5 3.12", "put b 999 0.0", "take l - -", "take l - 1.2", "free l - -", "send n 0 0", "fetch n 3 10",
                 "say abcdefgh 4 2", "clock - 0 -", "lot - 1 -", "hear d 999 -"]
        claims = tuple((number,) for number in range(12))
        self.asked(((0,) * 12, (looks,), (claims,)),
                   ["paper 1", "order" + " 0" * 12, "hand"] + [f"{line} {number}" for number, line in enumerate(lines)])

    def test_what_is_no_paper_of_a_record(self):
        # Whatever numbers, and looks that no row gives.
        most = int("9" * 40)
        self.asked(((7, most), ((("get", "", None, most), ("clock", "b", 1000, (most, most))),), (((most,), (0,)),)),
                   ["paper 1", "order 7 " + "9" * 40, "hand", "get - - " + "9" * 40 + " " + "9" * 40, "clock b 1000 " + "9" * 40 + "." + "9" * 40 + " 0"])

    def test_papers_of_one_to_four_hands(self):
        chance = random.Random(110)
        hands = set()
        for turn in range(120):
            program, stand, run = busy_scene(chance)
            hands.add(len(stand[0]))
            record = whole_record(program, stand, run)
            paper = paper_of(program, stand, run, record)
            lines = stays(self, paper_lines, paper)
            self.assertIs(type(lines), list)
            self.assertIsNone(first_wrong_row(lines))
            told = stays(self, read_paper, lines)
            same_kind(self, told, paper)
            self.assertIs(lets(program, stand, record, told), True)
        self.assertEqual(hands, {1, 2, 3, 4})

    def test_what_is_told_is_the_askers_own(self):
        paper_lines(PAPER).clear()
        self.assertEqual(paper_lines(PAPER), LINES)
        lines = list(LINES)
        told = read_paper(lines)
        lines.clear()
        self.assertEqual(told, PAPER)


class Refused(unittest.TestCase):
    def refused(self, lines, row):
        self.assertEqual(first_wrong_row(lines), row)
        refused(self, NoLines, (row,), read_paper, lines)

    def at(self, row, line):
        self.refused(LINES[:row] + [line] + LINES[row + 1:], row)

    def test_none_or_too_few(self):
        self.refused([], 0)
        self.refused(LINES[:1], 1)
        self.refused(LINES[:2], 2)
        self.refused(LINES[:3], 3)
        self.refused(LINES[:5], 5)
        self.assertEqual(read_paper(LINES[:6])[1], (PAPER[1][0], ()))

    def test_lines_left_out_and_told_twice(self):
        self.refused(LINES[1:], 0)
        self.refused(LINES[:1] + LINES[2:], 1)
        self.refused(LINES[:2] + LINES[3:], 2)
        self.refused(LINES[:5] + LINES[6:], 7)
        self.refused([LINES[0]] + LINES, 1)
        self.refused(LINES[:2] + LINES[1:], 2)
        self.refused(LINES + ["hand"], 8)
        self.refused(LINES[:3] + LINES[2:], 6)
        self.refused(LINES + LINES, 8)

    def test_lines_turned_about(self):
        self.refused([LINES[1], LINES[0]] + LINES[2:], 0)
        self.refused([LINES[0], LINES[2], LINES[1]] + LINES[3:], 1)
        self.refused(LINES[:2] + [LINES[3], LINES[2]] + LINES[4:], 2)

    def test_how_many_hands(self):
        for line in ("paper", "paper ", "paper 0", "paper 5", "paper 02", "paper 2 2", "paper -", "paper x", "paper 10", "paper 2\n", "Paper 2", "papers 2",
                     "paper  2", " paper 2", "paper 2 ", "2", "", "upto 2", "paper " + "2" * 41):
            self.at(0, line)
        self.refused(["paper 1"] + LINES[1:], 3)
        self.refused(["paper 3"] + LINES[1:], 3)
        self.refused(["paper 1", "order", "hand", "hand"], 3)
        self.refused(["paper 2", "order", "hand"], 3)

    def test_the_order(self):
        for line in ("order ", "order 0 ", "order  0", " order", "order x", "order -", "order 00", "order 0.1", "order 0 1 -1", "orders 0", "0 1", "", "Order",
                     "order\n", "order " + "1" * 41, "hand"):
            self.at(1, line)
        same_kind(self, read_paper(["paper 1", "order 9 3", "hand"])[0], (9, 3))

    def test_hands(self):
        for line in ("", "hand ", " hand", "Hand", "hands", "hand ann", "hand\n", "hand 0"):
            self.at(2, line)
            self.at(5, line)

    def test_kinds_things_values_and_marks(self):
        for kind in ("", "-", "let", "leap", "Get", "gets", "hand", "add", "0", "clock\n"):
            self.at(3, f"{kind} b 1 - 0 0")
        for thing in ("", "B", "get", "hand", "add", "abcdefghi", "b1", "1", "b\n", "--", "b-"):
            self.at(3, f"put {thing} 1 - 0 0")
        for value in ("", "x", "01", "-1", "1.0", "0.0", "--", "1" * 41, "1\n"):
            self.at(3, f"put b {value} - 0 0")
        for mark in ("", "x", "01", "-1", ".", "1.", ".1", "1.2.3", "1..2", "-.1", "1.-", "01.1", "1.01", "1,2", "(0,0)", "1" * 41, "1." + "1" * 41, "1\n"):
            self.at(3, f"put b 1 {mark} 0 0")
            self.at(7, f"say gate 12 {mark} 1 1")

    def test_claims(self):
        for claim in ("", "0", "0 0 0", "0 -", "- 0", "0 x", "00 0", "0 01", "0 0.0", "0 -1", "0 " + "1" * 41, "0  0", " 0 0", "0 0 ", "0 0\n"):
            self.at(3, "put b 1 - " + claim)
        self.at(4, "clock - 7 -")
        self.at(4, "clock - 7")
        self.at(4, "clock")

    def test_the_first_of_several(self):
        self.refused(["paper 9", "x", "x"], 0)
        self.refused(["paper 1", "x", "x"], 1)
        self.refused(["paper 1", "order", "x", "x"], 2)
        self.refused(["paper 2", "order", "hand", "x"], 3)

    def test_any_lists_of_texts(self):
        chance = random.Random(111)
        rows = []
        words = ["paper", "order", "hand", "get", "-", "0", "1", "2", "0.1", "01", "", "b", "x", "9" * 40, "9" * 41, "1\n", "let"]
        for turn in range(4000):
            lines = bent_lines(chance, LINES, ["hand", "order", "paper 2"], words)
            rows.append(first_wrong_row(lines))
            if rows[-1] is None:
                same_kind(self, paper_lines(stays(self, read_paper, lines)), lines)
            else:
                self.refused(lines, rows[-1])
        self.assertGreater(min(rows.count(row) for row in (None, 0, 1, 2, 3, 4, 5, 6, 7)), 40)


if __name__ == "__main__":
    unittest.main()
