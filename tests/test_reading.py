import random
import unittest

from helper import EVERY_ROW, N1, X, kinds, program_of, random_program, same_kind, stays
from leastrecord.errors import LeastError, NoProgram
from leastrecord.programs import is_program
from leastrecord.reading import read
from leastrecord.showing import shown

THINGS = ["box b 5", "box c 0", "lock l", "lock m", "lane n", "lane o", "door d", "door e"]
HEAD = THINGS + ["hand ha"]
FIRST = len(HEAD)

WORDS = (
    "let leap get put take free send fetch say clock lot hear add sub mul less same not box lock lane door hand"
).split()


class Reading(unittest.TestCase):
    def refused(self, lines, row, word):
        with self.assertRaises(NoProgram) as caught:
            stays(self, read, lines)
        same_kind(self, (caught.exception.row, caught.exception.word), (row, word))
        self.assertIsInstance(caught.exception, LeastError)

    def row_refused(self, line, word):
        """The line is refused as a hand's first row, and as a later one."""
        self.refused(HEAD + [line], FIRST, word)
        self.refused(HEAD + ["clock x", line, "nonsense"], FIRST + 1, word)

    def row_read(self, line, row):
        program = stays(self, read, HEAD + [line])
        same_kind(self, program, program_of((row,)))


class Read(Reading):
    def test_every_line(self):
        lines = HEAD + [
            "let x add x 1", "leap 0 0", "get x b", "put b x", "take l", "free l", "send n x", "fetch x n", "say d x",
            "clock x", "lot x 6", "hear x d", "hand hb", "hand hc", "take m"]
        same_kind(self, stays(self, read, lines), program_of(EVERY_ROW, (), (("take", "m"),)))

    def test_one_hand_alone(self):
        same_kind(self, read(["hand solo"]), ((), (), (), (), (("solo", ()),)))

    def test_sorts_may_lack(self):
        same_kind(self, read(["lane q", "hand z", "fetch z q"]), ((), (), ("q",), (), (("z", (("fetch", "z", "q"),)),)))
        same_kind(self, read(["box q 999", "door p", "hand z"]), ((("q", 999),), (), (), ("p",), (("z", ()),)))

    def test_four_of_every_sort_and_thirty_rows_each(self):
        lines = [f"box b{sign} 0" for sign in "abcd"]
        for sort, letter in (("lock", "l"), ("lane", "n"), ("door", "d")):
            lines += [f"{sort} {letter}{sign}" for sign in "abcd"]
        for sign in "abcd":
            lines += [f"hand h{sign}"] + ["leap 30 1"] * 30
        program = read(lines)
        self.assertEqual([len(part) for part in program], [4, 4, 4, 4, 4])
        self.assertEqual([len(hand[1]) for hand in program[4]], [30] * 4)
        self.assertTrue(is_program(program))
        self.assertEqual(shown(program), lines)

    def test_sums(self):
        for text, tree in (
            ("0", ("num", 0)), ("999", ("num", 999)), ("70", ("num", 70)), ("x", X), ("num", ("of", "num")),
            ("of", ("of", "of")), ("b", ("of", "b")), ("ha", ("of", "ha")), ("not x", ("not", X)), ("add x 1", ("add", X, N1)),
            ("sub 1 x", ("sub", N1, X)), ("mul x x", ("mul", X, X)), ("less x 1", ("less", X, N1)),
            ("same 1 x", ("same", N1, X)), ("add not x sub 1 mul x 1", ("add", ("not", X), ("sub", N1, ("mul", X, N1)))),
            ("not not not not x", ("not", ("not", ("not", ("not", X))))),
            ("less add x 1 x", ("less", ("add", X, N1), X)),
        ):
            self.row_read("let p " + text, ("let", "p", tree))
            self.row_read("leap 1 " + text, ("leap", 1, tree))
            self.row_read("put c " + text, ("put", "c", tree))
            self.row_read("send o " + text, ("send", "o", tree))
            self.row_read("say e " + text, ("say", "e", tree))

    def test_a_sum_of_twelve_sums(self):
        tree = ("add", ("add", ("add", N1, N1), ("add", N1, N1)), ("not", ("sub", N1, N1)))
        self.row_read("let p add add add 1 1 add 1 1 not sub 1 1", ("let", "p", tree))

    def test_bounds_of_numbers(self):
        self.row_read("lot x 2", ("lot", "x", 2))
        self.row_read("lot x 1000", ("lot", "x", 1000))
        same_kind(self, read(["box q 0", "hand z"])[0], (("q", 0),))
        same_kind(self, read(["box q 999", "hand z"])[0], (("q", 999),))
        same_kind(self, read(["hand z"] + ["leap 30 1"] * 30)[4][0][1], (("leap", 30, N1),) * 30)

    def test_pockets_called_like_other_things(self):
        for name in ("b", "l", "n", "d", "ha", "zz"):
            self.row_read("get " + name + " b", ("get", name, "b"))
            self.row_read("let " + name + " " + name, ("let", name, ("of", name)))

    def test_what_is_shown_is_read_again(self):
        chance = random.Random(13)
        for turn in range(150):
            program = random_program(chance)
            told = read(shown(program))
            self.assertTrue(is_program(told))
            same_kind(self, told, program)

    def test_the_lines_stay_and_later_changes_of_them_change_nothing(self):
        lines = HEAD + ["clock x"]
        program = read(lines)
        lines.clear()
        self.assertEqual(program, program_of((("clock", "x"),)))
        same_kind(self, read(HEAD + ["clock x"]), program)

    def test_one_reading_leaves_nothing_to_the_next(self):
        self.refused(THINGS, len(THINGS), 0)
        same_kind(self, read(["box b 1", "hand ha"]), ((("b", 1),), (), (), (), (("ha", ()),)))
        same_kind(self, read(["hand ha"]), ((), (), (), (), (("ha", ()),)))


class Faults(Reading):
    def test_no_hand_and_no_lines(self):
        self.refused([], 0, 0)
        for many in range(1, len(THINGS) + 1):
            self.refused(THINGS[:many], many, 0)

    def test_a_sort_out_of_its_turn(self):
        lines = {"box": "box p 1", "lock": "lock q", "lane": "lane r", "door": "door s", "hand": "hand t"}
        others = {"box": "box f 1", "lock": "lock g", "lane": "lane h", "door": "door i", "hand": "hand j"}
        sorts = list(lines)
        for one in range(5):
            for other in range(5):
                if other < one:
                    self.refused([lines[sorts[one]], others[sorts[other]], "hand z"], 1, 0)
                    self.refused([lines[sorts[one]], sorts[other]], 1, 0)
                else:
                    told = read([lines[sorts[one]], others[sorts[other]], "hand z"])
                    self.assertTrue(is_program(told))
        self.refused(HEAD + ["clock x", "door f"], FIRST + 1, 0)
        self.refused(["lock a", "door b", "lane c", "hand z"], 2, 0)

    def test_a_row_with_no_hand_above_it(self):
        for row in ("let x 1", "leap 0 1", "get x b", "put b x", "take l", "free l", "send n x", "fetch x n", "say d x",
                    "clock x", "lot x 6", "hear x d"):
            self.refused(THINGS + [row, "hand ha"], len(THINGS), 0)
            self.refused([row], 0, 0)
            self.refused(THINGS + ["hand ha", row, row.split()[0]], FIRST + 1, 1)

    def test_a_fifth_of_a_sort(self):
        for sort, more in (("box", " 1"), ("lock", ""), ("lane", ""), ("door", ""), ("hand", "")):
            lines = [f"{sort} p{sign}{more}" for sign in "abcde"]
            self.refused(lines + ["hand z"], 4, 0)
            self.refused(lines[:4] + [sort], 4, 0)
            if sort != "hand":
                self.assertEqual(len(read(lines[:4] + ["hand z"])[4]), 1)
        self.refused(["hand a", "hand b", "clock x", "hand c", "hand d", "clock x", "hand e"], 6, 0)

    def test_a_thirty_first_row(self):
        self.refused(["hand a"] + ["clock x"] * 31, 31, 0)
        self.refused(["hand a"] + ["clock x"] * 30 + ["hand b"] + ["clock x"] * 31, 62, 0)
        self.refused(["hand a"] + ["clock x"] * 30 + ["clock"], 31, 0)
        self.assertEqual(len(read(["hand a"] + ["clock x"] * 30 + ["hand b"] + ["clock x"] * 30)[4]), 2)

    def test_a_first_word_that_is_none(self):
        for word in ("add", "not", "num", "x", "", "Box", "boxes", "1", "lock\n", "~"):
            for lines in ([], THINGS, HEAD):
                self.refused(lines + [word], len(lines), 0)
                self.refused(lines + [word + " x"], len(lines), 0)

    def test_names_told_twice(self):
        lines = HEAD + ["hand hb"]
        for name in ("b", "c", "l", "m", "n", "o", "d", "e", "ha", "hb"):
            self.refused(lines + ["hand " + name], len(lines), 1)
        self.refused(["box a 1", "box a 2"], 1, 1)
        self.refused(["box a 1", "lock a"], 1, 1)
        self.refused(["lock a", "lock a"], 1, 1)
        self.refused(["lock a", "lane a"], 1, 1)
        self.refused(["lane a", "lane b", "lane a"], 2, 1)
        self.refused(["lane a", "door a"], 1, 1)
        self.refused(["box a 1", "door a"], 1, 1)
        self.refused(["box a 1", "box a 1000"], 1, 1)
        self.refused(["box a 1", "box a"], 1, 1)

    def test_pockets_are_not_told_names(self):
        lines = ["hand a", "clock p", "let q 1", "hand p", "hand q"]
        self.assertEqual([hand[0] for hand in read(lines)[4]], ["a", "p", "q"])

    def test_names_that_are_none(self):
        for name in WORDS + ["", "abcdefghi", "A", "a1", "1", "-", "a\n", "\n", "a.b"]:
            self.refused(["box " + name + " 1", "hand z"], 0, 1)
            for sort in ("lock", "lane", "door", "hand"):
                self.refused([sort + " " + name, "hand z"], 0, 1)
            for line in ("let {} 1", "get {} b", "fetch {} n", "clock {}", "lot {} 2", "hear {} d"):
                self.row_refused(line.replace("{}", name), 1)

    def test_names_of_another_sort(self):
        own = {"box": "bc", "lock": "lm", "lane": "no", "door": "de"}
        for line, sort, word in (("get x {}", "box", 2), ("put {} 1", "box", 1), ("take {}", "lock", 1), ("free {}", "lock", 1),
                                 ("send {} 1", "lane", 1), ("fetch x {}", "lane", 2), ("say {} 1", "door", 1),
                                 ("hear x {}", "door", 2)):
            for name in ("b", "c", "l", "m", "n", "o", "d", "e"):
                if name in own[sort]:
                    self.assertTrue(is_program(read(HEAD + [line.replace("{}", name)])))
                else:
                    self.row_refused(line.replace("{}", name), word)
            for name in ("ha", "x", "zz", "", "box", "1", "B", "bc", "b\n"):
                self.row_refused(line.replace("{}", name), word)

    def test_numbers_out_of_bounds_or_written_otherwise(self):
        odd = ["", "-1", "+1", "00", "01", "007", "1.", "1_0", " ", "x1", "1x", "0x1", "1\n", "\n1", "1e2", "9" * 40, "0" * 40]
        for number in odd + ["1000", "1001", "x", "num"]:
            self.refused([f"box q {number}", "hand z"], 0, 2)
        for number in odd + ["31", "99", "100", "x", "999"]:
            self.row_refused(f"leap {number} 1", 1)
        for number in odd + ["0", "1", "1001", "9999", "10000", "x"]:
            self.row_refused(f"lot x {number}", 2)
        for number in odd + ["1000", "1001", "9999"]:
            self.row_refused(f"let x {number}", 2)
            self.row_refused(f"put b add 1 {number}", 4)

    def test_words_that_begin_no_sum(self):
        for word in ("let", "leap", "get", "put", "take", "box", "hand", "lot", "abcdefghi", "X", "", "-", "(", "add,"):
            self.row_refused("let x " + word, 2)
            self.row_refused("leap 0 " + word, 2)
            self.row_refused("put b " + word, 2)
            self.row_refused("send n not " + word, 3)
            self.row_refused("say d add 1 " + word, 4)
            self.row_refused("say d add not " + word + " 1", 4)

    def test_a_thirteenth_sum(self):
        twelve = "add add add 1 1 add 1 1 add sub 1 1"
        self.assertEqual(len(twelve.split()), 12)
        self.row_refused("let x " + twelve, 14)
        self.row_refused("let x " + twelve + " 1", 14)
        self.row_refused("let x " + twelve + " nonsense 1", 14)
        self.row_refused("put b add add add x x add x x add sub x x add x x", 14)
        self.row_refused("send n add not not 1 add not 1 add not 1 add 1 1", 14)

    def test_a_sum_six_deep(self):
        for word in ("1", "x", "add", "not", "nonsense", ""):
            self.row_refused("let x not not not not not " + word, 7)
            self.row_refused("say d add 1 not not not not " + word, 8)
            self.row_refused("leap 0 add not not not 1 not not not not " + word, 11)
        self.row_refused("let x not not not not not", 7)

    def test_a_word_too_many(self):
        self.refused(["box q 1 1", "hand z"], 0, 3)
        for sort in ("lock", "lane", "door", "hand"):
            self.refused([sort + " q q", "hand z"], 0, 2)
        for line in ("let x 1", "leap 0 1", "get x b", "put b x", "take l", "free l", "send n x", "fetch x n", "say d x",
                     "clock x", "lot x 6", "hear x d", "let x add 1 not x", "put b not not not not x"):
            for more in ("1", "x", "", "nonsense", "1 1"):
                self.row_refused(line + " " + more, len(line.split()))

    def test_a_line_that_lacks_words(self):
        for line in ("box q 1", "lock q", "lane q", "door q", "hand q"):
            words = line.split()
            for many in range(1, len(words)):
                self.refused([" ".join(words[:many]), "hand z"], 0, many)
        for line in ("let x 1", "leap 0 1", "get x b", "put b x", "take l", "free l", "send n x", "fetch x n", "say d x",
                     "clock x", "lot x 6", "hear x d", "let x add not 1 sub x 1", "say d less x not not 1"):
            words = line.split()
            for many in range(1, len(words)):
                self.row_refused(" ".join(words[:many]), many)

    def test_blanks_side_by_side_and_at_an_end(self):
        self.refused(["", "hand z"], 0, 0)
        self.refused([" ", "hand z"], 0, 0)
        self.refused([" hand z"], 0, 0)
        self.refused(["hand  z"], 0, 1)
        self.refused(["hand z "], 0, 2)
        self.refused(["box  q 1"], 0, 1)
        self.refused(["box q  1"], 0, 2)
        self.refused(["box q 1 "], 0, 3)
        self.row_refused(" clock x", 0)
        self.row_refused("clock  x", 1)
        self.row_refused("clock x ", 2)
        self.row_refused("let x add  1 1", 3)
        self.row_refused("let x add 1  1", 4)
        self.row_refused("", 0)

    def test_line_ends_are_signs_of_words(self):
        self.refused(["hand z\n"], 0, 1)
        self.refused(["hand\nz"], 0, 0)
        self.refused(["box q 1\n"], 0, 2)
        self.row_refused("clock x\n", 1)
        self.row_refused("lot x 6\n", 2)
        self.row_refused("take l\n", 1)

    def test_a_leap_beyond_its_hands_rows(self):
        self.refused(["hand a", "leap 2 1"], 1, 1)
        self.refused(["hand a", "clock x", "leap 3 1"], 2, 1)
        self.refused(["hand a", "leap 30 1", "clock x"], 1, 1)
        self.refused(["hand a", "leap 2 1", "hand b", "clock x", "clock x"], 1, 1)
        self.refused(["hand a", "clock x", "clock x", "hand b", "leap 2 1"], 4, 1)
        self.refused(["hand a", "leap 1 1", "hand b", "leap 1 1", "leap 3 1", "leap 4 1"], 5, 1)
        self.refused(["hand a", "leap 3 1", "leap 2 1", "hand b", "leap 9 1"], 1, 1)
        for target in (0, 1, 2):
            same_kind(self, read(["hand a", f"leap {target} 1", "clock x"])[4][0][1], (("leap", target, N1), ("clock", "x")))

    def test_a_leap_is_told_behind_all_the_rest(self):
        self.refused(["hand a", "leap 2 1", "clock"], 2, 1)
        self.refused(["hand a", "leap 2 1", "hand a"], 2, 1)
        self.refused(["hand a", "leap 2 1", "hand b", "leap 31 1"], 3, 1)
        self.refused(["hand a", "leap 2 1 1"], 1, 3)
        self.refused(["hand a", "leap 2"], 1, 2)

    def test_the_first_line_and_in_it_the_first_word(self):
        self.refused(["box A 1000 1", "lock 1"], 0, 1)
        self.refused(["box a 1000 1", "lock 1"], 0, 2)
        self.refused(["box a 1 1", "lock 1"], 0, 3)
        self.refused(["box a 1", "lock 1"], 1, 1)
        self.row_refused("get 1 2 3", 1)
        self.row_refused("get x l x", 2)
        self.row_refused("let 1 hand 1", 1)
        self.row_refused("let x add hand hand", 3)
        self.row_refused("lot x 1 1", 2)
        self.row_refused("leap 31 add", 1)

    def test_words_split_at_blanks_alone(self):
        self.assertEqual(kinds(read(["hand z"])), kinds(((), (), (), (), (("z", ()),))))
        self.refused(["hand z", "clock x\nclock y"], 1, 1)


if __name__ == "__main__":
    unittest.main()
