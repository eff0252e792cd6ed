import unittest

from helper import EVERY_ROW, N0, N1, X, Y, program_of, stays
from leastrecord.showing import shown


class Shown(unittest.TestCase):
    def rows(self, *rows):
        """The lines of a hand with these rows, behind the line of its name."""
        lines = shown(((), (), (), (), (("ha", rows),)))
        self.assertEqual(lines[0], "hand ha")
        return lines[1:]

    def test_every_line_in_its_order(self):
        program = program_of(EVERY_ROW, (), (("take", "m"),))
        self.assertEqual(stays(self, shown, program), [
            "box b 5", "box c 0", "lock l", "lock m", "lane n", "lane o", "door d", "door e",
            "hand ha", "let x add x 1", "leap 0 0", "get x b", "put b x", "take l", "free l", "send n x", "fetch x n",
            "say d x", "clock x", "lot x 6", "hear x d", "hand hb", "hand hc", "take m",
        ])

    def test_a_program_of_one_hand_alone(self):
        self.assertEqual(shown(((), (), (), (), (("solo", ()),))), ["hand solo"])

    def test_order_is_the_programs_not_the_letters(self):
        program = ((("z", 999), ("a", 10)), ("y", "b"), ("x", "c"), ("w", "d"), (("v", ()), ("e", ())))
        self.assertEqual(shown(program), [
            "box z 999", "box a 10", "lock y", "lock b", "lane x", "lane c", "door w", "door d", "hand v", "hand e"])

    def test_sums(self):
        for tree, text in (
            (N0, "0"), (("num", 999), "999"), (("num", 70), "70"), (X, "x"), (("of", "num"), "num"), (("not", X), "not x"),
            (("add", X, Y), "add x y"), (("sub", X, N1), "sub x 1"), (("mul", N1, X), "mul 1 x"), (("less", X, Y), "less x y"),
            (("same", Y, X), "same y x"),
            (("add", ("not", X), ("sub", ("num", 5), ("mul", X, Y))), "add not x sub 5 mul x y"),
            (("less", ("less", ("less", X, Y), N0), N1), "less less less x y 0 1"),
        ):
            self.assertEqual(self.rows(("let", "p", tree)), ["let p " + text])
            self.assertEqual(self.rows(("leap", 1, tree)), ["leap 1 " + text])
            self.assertEqual(shown(program_of((("put", "c", tree), ("send", "o", tree), ("say", "e", tree))))[-3:],
                             ["put c " + text, "send o " + text, "say e " + text])

    def test_numbers_of_leaps_and_lots(self):
        self.assertEqual(self.rows(("lot", "x", 1000), ("lot", "x", 2), ("leap", 3, N1)), ["lot x 1000", "lot x 2", "leap 3 1"])

    def test_pockets_called_like_other_things(self):
        program = program_of((("get", "b", "b"), ("fetch", "n", "n"), ("hear", "ha", "d"), ("let", "l", ("of", "l"))))
        self.assertEqual(shown(program)[-4:], ["get b b", "fetch n n", "hear ha d", "let l l"])

    def test_lines_are_the_askers_own_list(self):
        program = program_of(EVERY_ROW)
        told = shown(program)
        self.assertIs(type(told), list)
        again = list(told)
        told.clear()
        told.append("box q 1")
        self.assertEqual(shown(program), again)


if __name__ == "__main__":
    unittest.main()
