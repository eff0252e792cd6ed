import random
import re
import unittest

from helper import bent_lines, busy_scene, odd_things, random_record, refused, same_kind, stays
from leastrecord.errors import NoLines
from leastrecord.least import least_record
from leastrecord.recordtexts import read_record, record_lines
from leastrecord.records import is_record, whole_record

NUMBER = "(?:0|[1-9][0-9]{0,39})"
RECORD = ((3, 12), ((7, None, 0), ()), (((0, 1), (1, 0)), ((1, 11), (0, 2))))
LINES = ["upto 3 12", "gifts 7 - 0", "gifts", "edge 0 1 1 0", "edge 1 11 0 2"]


def first_wrong_row(lines):
    """The row of the first line that can't stand where it does, None where all can; each line looked at as a whole."""
    if not lines or not re.fullmatch(f"upto(?: {NUMBER}){{1,4}}", lines[0]):
        return 0
    hands = lines[0].count(" ")
    for row, line in enumerate(lines[1:], start=1):
        form = f"gifts(?: (?:-|{NUMBER}))*" if row <= hands else f"edge(?: {NUMBER}){{4}}"
        if not re.fullmatch(form, line):
            return row
    return None if len(lines) > hands else len(lines)


class Written(unittest.TestCase):
    def asked(self, record, lines):
        same_kind(self, stays(self, record_lines, record), lines)
        same_kind(self, stays(self, read_record, lines), record)

    def test_an_ordinary_record(self):
        self.asked(RECORD, LINES)

    def test_nothing_in_it(self):
        self.asked(((0,), ((),), ()), ["upto 0", "gifts"])
        self.asked(((0, 0, 0, 0), ((), (), (), ()), ()), ["upto 0 0 0 0", "gifts", "gifts", "gifts", "gifts"])

    def test_gifts(self):
        self.asked(((3,), ((None, None, 999),), ()), ["upto 3", "gifts - - 999"])
        self.asked(((1, 1), ((), (0,)), ()), ["upto 1 1", "gifts", "gifts 0"])

    def test_edges(self):
        edges = (((0, 0), (3, 9)), ((1, 10), (2, 0)), ((2, 5), (1, 11)))
        self.asked(((1, 12, 6, 10), ((),) * 4, edges),
                   ["upto 1 12 6 10", "gifts", "gifts", "gifts", "gifts", "edge 0 0 3 9", "edge 1 10 2 0", "edge 2 5 1 11"])

    def test_what_is_no_record(self):
        # Edges in any order, told twice, of whatever numbers; gifts of whatever numbers.
        most = int("9" * 40)
        self.asked(((most,), ((most, None, 1000),), (((9, 9), (7, 7)), ((0, 0), (0, 0)), ((0, 0), (0, 0)), ((most, most), (most, 0)))),
                   ["upto " + "9" * 40, "gifts " + "9" * 40 + " - 1000", "edge 9 9 7 7", "edge 0 0 0 0", "edge 0 0 0 0",
                    "edge " + " ".join(["9" * 40] * 3) + " 0"])

    def test_records_of_one_to_four_hands(self):
        chance = random.Random(100)
        hands = set()
        for turn in range(120):
            program, stand, run = busy_scene(chance)
            hands.add(len(stand[0]))
            whole = whole_record(program, stand, run)
            for record in (whole, random_record(chance, program, stand, run, whole), least_record(program, stand, run)):
                lines = stays(self, record_lines, record)
                self.assertIs(type(lines), list)
                self.assertIsNone(first_wrong_row(lines))
                told = stays(self, read_record, lines)
                same_kind(self, told, record)
                self.assertIs(is_record(program, stand, told), True)
        self.assertEqual(hands, {1, 2, 3, 4})

    def test_what_is_told_is_the_askers_own(self):
        record_lines(RECORD).clear()
        self.assertEqual(record_lines(RECORD), LINES)
        lines = list(LINES)
        told = read_record(lines)
        lines[0] = "upto 9 9"
        lines.pop()
        self.assertEqual(told, RECORD)


class Refused(unittest.TestCase):
    def refused(self, lines, row):
        self.assertEqual(first_wrong_row(lines), row)
        refused(self, NoLines, (row,), read_record, lines)

    def at(self, row, line):
        """The lines with another one at this row are refused there."""
        self.refused(LINES[:row] + [line] + LINES[row + 1:], row)

    def test_none_or_too_few(self):
        self.refused([], 0)
        self.refused(LINES[:1], 1)
        self.refused(LINES[:2], 2)
        self.refused(["upto 1 1 1 1", "gifts", "gifts", "gifts"], 4)
        self.assertEqual(read_record(LINES[:3]), RECORD[:2] + ((),))

    def test_lines_left_out(self):
        self.refused(LINES[1:], 0)
        self.refused(LINES[:1] + LINES[2:], 2)
        self.refused(LINES[3:], 0)

    def test_lines_told_twice(self):
        self.refused([LINES[0]] + LINES, 1)
        self.refused(LINES[:3] + ["gifts"] + LINES[3:], 3)
        self.refused(LINES + ["gifts"], 5)
        self.refused(LINES + ["upto 3 12"], 5)
        self.assertEqual(read_record(LINES + LINES[-1:])[2], RECORD[2] + RECORD[2][-1:])

    def test_lines_turned_about(self):
        self.refused([LINES[1], LINES[0]] + LINES[2:], 0)
        self.refused(LINES[:2] + [LINES[3], LINES[2], LINES[4]], 2)
        self.assertEqual(read_record(LINES[:3] + LINES[:2:-1])[2], RECORD[2][::-1])

    def test_how_many_numbers(self):
        for line in ("upto", "upto ", "upto 1 1 1 1 1", "3 12", "upto3 12", "", " "):
            self.at(0, line)
        for line in ("edge", "edge 0", "edge 0 1 1", "edge 0 1 1 0 0", "0 1 1 0", ""):
            self.at(3, line)
            self.at(4, line)
        for line in ("", " ", "gift 7", "gifts7", "7", "-", "gifts -7"):
            self.at(1, line)
            self.at(2, line)
        self.refused(["upto 3", "gifts 7 - 0", "gifts"], 2)
        self.refused(["upto 3 12 1", "gifts 7 - 0", "gifts", "edge 0 1 1 0"], 3)

    def test_first_words(self):
        for word in ("Upto", "UPTO", "gifts", "edge", "up", "uptoo", "paper"):
            self.at(0, word + " 3 12")
        for word in ("upto", "edge", "Gifts", "gift", "gifts:", "-"):
            self.at(1, word + " 7 - 0")
        for word in ("upto", "gifts", "edges", "Edge", "-"):
            self.at(3, word + " 0 1 1 0")

    def test_words_that_are_no_numbers(self):
        others = ["", "x", "-1", "+1", "1.0", "1,", "0x1", "1_0", "00", "01", "007", "1 ", " 1", "one", "None", "1\n", "\n", "\n1", "--", "~", "1" * 41, "1" + "0" * 40,
                  "0" * 40, "0" + "1" * 39, "9" * 41, "9" * 200]
        for word in others:
            self.at(0, f"upto {word} 12")
            self.at(0, f"upto 3 {word}")
            self.at(1, f"gifts {word} - 0")
            self.at(1, f"gifts 7 - {word}")
            self.at(2, f"gifts {word}")
            self.at(3, f"edge {word} 1 1 0")
            self.at(4, f"edge 1 11 0 {word}")
        for row, line in ((0, "upto - 12"), (3, "edge - 1 1 0"), (3, "edge 0 1 1 -")):
            self.at(row, line)

    def test_blanks(self):
        for row, line in enumerate(LINES):
            self.at(row, line + " ")
            self.at(row, " " + line)
            self.at(row, line + "\n")
            self.at(row, line.replace(" ", "\n", 1) if " " in line else line + "\n")
            if " " in line:
                self.at(row, line.replace(" ", "  ", 1))

    def test_forty_figures(self):
        for figures in ("9" * 40, "1" + "0" * 39, "1" * 40):
            lines = [f"upto {figures}", f"gifts {figures}", f"edge {figures} 0 0 {figures}"]
            same_kind(self, read_record(lines), ((int(figures),), ((int(figures),),), (((int(figures), 0), (0, int(figures))),)))
        for row in range(3):
            lines = ["upto 1", "gifts 1", "edge 1 1 1 1"]
            lines[row] = lines[row].replace("1", "1" * 41, 1)
            self.refused(lines, row)

    def test_the_first_of_several(self):
        self.refused(["upto x", "gifts x", "edge x"], 0)
        self.refused(["upto 1", "gifts x", "edge x"], 1)
        self.refused(["upto 1", "gifts -", "edge x", "edge y"], 2)
        self.refused(["upto 1 1", "gifts x"], 1)

    def test_five_hundred_lines(self):
        lines = ["upto 1", "gifts"] + ["edge 0 0 1 0"] * 498
        self.assertEqual(len(read_record(lines)[2]), 498)
        self.refused(lines[:-1] + ["edge"], 499)

    def test_any_lists_of_texts(self):
        chance = random.Random(101)
        rows = []
        words = ["upto", "gifts", "edge", "-", "0", "1", "12", "01", "", "x", "9" * 40, "9" * 41, "1\n"]
        for turn in range(3000):
            lines = bent_lines(chance, LINES, ["gifts 3", "edge 1 1 0 0", "upto 1 1"], words)
            rows.append(first_wrong_row(lines))
            if rows[-1] is None:
                told = stays(self, read_record, lines)
                same_kind(self, record_lines(told), lines)
            else:
                self.refused(lines, rows[-1])
        self.assertGreater(min(rows.count(row) for row in (None, 0, 1, 2, 3, 4)), 40)

    def test_odd_texts(self):
        for text in [thing for thing in odd_things() if isinstance(thing, str)]:
            self.refused([text], 0)
            self.refused([text] * 3, 0)


if __name__ == "__main__":
    unittest.main()
