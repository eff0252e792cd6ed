import unittest

from helper import EVERY_ROW, N0, N1, X, kinds, nested, odd_things, program_of, stays
from leastrecord.programs import is_program, number_of, rows_of

SMALL = ((), (), (), (), (("ha", ()),))
PLACES = {"box": 0, "lock": 1, "lane": 2, "door": 3, "hand": 4}


def with_part(program, place, part):
    return program[:place] + (part,) + program[place + 1:]


def entry(sort, name):
    return {"box": (name, 3), "hand": (name, ())}.get(sort, name)


def with_entries(sort, names):
    """A program with just these of one sort, and no more than it must have."""
    return with_part(SMALL, PLACES[sort], tuple(entry(sort, name) for name in names))


class IsProgram(unittest.TestCase):
    def yes(self, thing):
        self.assertIs(stays(self, is_program, thing), True, thing)

    def no(self, thing):
        self.assertIs(stays(self, is_program, thing), False, thing)

    def row(self, row):
        return program_of((row,))

    def test_the_smallest_and_one_with_every_row(self):
        self.yes(SMALL)
        self.yes(program_of(EVERY_ROW))
        self.yes(program_of(EVERY_ROW, (), EVERY_ROW[::-1], EVERY_ROW))

    def test_each_row_by_itself(self):
        for row in EVERY_ROW:
            self.yes(self.row(row))

    def test_parts_of_the_program(self):
        for many in range(5):
            self.no(SMALL[:many])
        self.no(SMALL + ((),))
        self.no(SMALL + (None,))
        self.no(list(SMALL))
        for place in range(5):
            for thing in odd_things():
                if place < 4 and thing == () or place in (1, 2, 3) and thing == ("num",):
                    continue  # no things, or one that is called num
                self.no(with_part(SMALL, place, thing))
            self.no(with_part(program_of(EVERY_ROW), place, list(program_of(EVERY_ROW)[place])))

    def test_none_four_and_five_of_each_sort(self):
        for sort in PLACES:
            names = ("pa", "pb", "pc", "pd", "pe")
            for many in (1, 2, 3, 4):
                self.yes(with_entries(sort, names[:many]))
            self.no(with_entries(sort, names))
            self.assertIs(is_program(with_entries(sort, ())), sort != "hand", sort)

    def test_four_of_every_sort(self):
        self.yes((tuple((name, 0) for name in ("ba", "bb", "bc", "bd")), ("la", "lb", "lc", "ld"), ("na", "nb", "nc", "nd"),
                  ("da", "db", "dc", "dd"), tuple((name, ()) for name in ("ha", "hb", "hc", "hd"))))

    def test_names_of_each_sort(self):
        for sort in PLACES:
            for name in ("a", "abcdefgh", "num", "of", "boxes"):
                self.yes(with_entries(sort, (name,)))
            for name in ("", "abcdefghi", "box", "hand", "let", "A", "a b", 1, None, True, ["a"], ("a",), {"a": 1}):
                self.no(with_entries(sort, (name,)))
                self.no(with_entries(sort, ("a", name)))

    def test_names_told_twice_in_one_sort(self):
        for sort in PLACES:
            self.no(with_entries(sort, ("a", "a")))
            self.no(with_entries(sort, ("a", "b", "c", "a")))
            self.yes(with_entries(sort, ("a", "b", "c", "d")))

    def test_boxes_of_one_name_with_unlike_values(self):
        self.no(with_part(SMALL, 0, (("a", 1), ("a", 2))))

    def test_names_told_twice_across_sorts(self):
        for sort in PLACES:
            for other in PLACES:
                if sort != other:
                    program = with_part(with_entries(sort, ("a",)), PLACES[other], (entry(other, "a"),))
                    self.no(program)
                    self.yes(with_part(program, PLACES[other], (entry(other, "b"),)))

    def test_values_of_boxes(self):
        for value in (0, 1, 999):
            self.yes(with_part(SMALL, 0, (("a", value),)))
        for value in (-1, 1000, True, False, None, "1", [1], (1,), {}, 10 ** 39):
            self.no(with_part(SMALL, 0, (("a", value),)))
            self.no(with_part(SMALL, 0, (("b", 1), ("a", value))))

    def test_boxes_of_other_shapes(self):
        for box in (("a",), ("a", 1, 1), ["a", 1], "a", None, (1, "a"), ()):
            self.no(with_part(SMALL, 0, (box,)))

    def test_hands_of_other_shapes(self):
        for hand in (("a",), ("a", (), ()), ["a", ()], "a", None, ((), "a"), (), ("a", []), ("a", None), ("a", {}), ("a", "")):
            self.no(with_part(SMALL, 4, (hand,)))
            self.no(with_part(SMALL, 4, (("ha", ()), hand)))

    def test_one_to_four_hands(self):
        for many in (1, 2, 3, 4):
            self.yes(program_of(*[()] * many))
        self.no(program_of())
        self.no(program_of(*[()] * 5))

    def test_thirty_rows_and_thirty_one(self):
        row = ("let", "x", N1)
        for many in (0, 1, 29, 30):
            self.yes(program_of((row,) * many))
        self.no(program_of((row,) * 31))
        self.no(program_of((), (row,) * 31))
        self.yes(program_of((row,) * 30, (row,) * 30))

    def test_leaps(self):
        for many in (1, 2, 30):
            for place in (0, many - 1):
                for target in (0, 1, many - 1, many):
                    self.yes(program_of((EVERY_ROW[0],) * place + (("leap", target, N1),) + (EVERY_ROW[0],) * (many - 1 - place)))
                for target in (-1, many + 1, 1000, True, False, None, "0", (0,), [0]):
                    self.no(program_of((EVERY_ROW[0],) * place + (("leap", target, N1),) + (EVERY_ROW[0],) * (many - 1 - place)))

    def test_a_leap_is_bound_by_its_own_hand(self):
        long = (("let", "x", N1),) * 5
        self.no(program_of((("leap", 2, N1),), long))
        self.no(program_of(long, (("leap", 2, N1),)))
        self.yes(program_of(long + (("leap", 6, N1),), (("leap", 1, N1),)))

    def test_lots(self):
        for chances in (2, 3, 999, 1000):
            self.yes(self.row(("lot", "x", chances)))
        for chances in (1, 0, -1, 1001, True, None, "2", (2,), [2], ("num", 2)):
            self.no(self.row(("lot", "x", chances)))

    def test_things_are_those_of_their_sort(self):
        own = {"box": "b", "lock": "l", "lane": "n", "door": "d"}
        rows = {
            "box": (lambda name: ("get", "x", name), lambda name: ("put", name, X)),
            "lock": (lambda name: ("take", name), lambda name: ("free", name)),
            "lane": (lambda name: ("send", name, X), lambda name: ("fetch", "x", name)),
            "door": (lambda name: ("say", name, X), lambda name: ("hear", "x", name)),
        }
        for sort, makes in rows.items():
            for make in makes:
                for name in ("b", "c", "l", "m", "n", "o", "d", "e", "ha", "x", "zz"):
                    there = name in {"box": "bc", "lock": "lm", "lane": "no", "door": "de"}[sort]
                    self.assertIs(is_program(self.row(make(name))), there, make(name))
                for thing in odd_things() + [[own[sort]], (own[sort],), 0, (own[sort], 5)]:
                    self.no(self.row(make(thing)))

    def test_pockets_are_names_of_whatever_else(self):
        makes = (lambda name: ("let", name, N1), lambda name: ("get", name, "b"), lambda name: ("fetch", name, "n"),
                 lambda name: ("clock", name), lambda name: ("lot", name, 2), lambda name: ("hear", name, "d"),
                 lambda name: ("let", "x", ("of", name)))
        for make in makes:
            for name in ("b", "l", "n", "d", "ha", "zz", "num", "of", "abcdefgh"):
                self.yes(self.row(make(name)))
            for name in ("", "let", "box", "abcdefghi", "X", 1, None, True, ["x"], ("x",), {"x": 1}, X):
                self.no(self.row(make(name)))

    def test_sums_of_rows(self):
        makes = (lambda tree: ("let", "x", tree), lambda tree: ("leap", 0, tree), lambda tree: ("put", "b", tree),
                 lambda tree: ("send", "n", tree), lambda tree: ("say", "d", tree))
        deep = nested(lambda tree: ("not", tree), N1, 4)
        for make in makes:
            for tree in (N0, X, deep, ("add", X, deep[1])):
                self.yes(self.row(make(tree)))
            for tree in odd_things() + [("not", deep), ["num", 1], "x", 1, ("num", True)]:
                self.no(self.row(make(tree)))

    def test_rows_too_short_and_too_long(self):
        for row in EVERY_ROW:
            self.no(self.row(row[:-1]))
            self.no(self.row(row + (None,)))
            self.no(self.row(row + (X,)))
            self.no(self.row(row[:1]))
            self.no(self.row(list(row)))
            self.no(self.row([row]))
            self.no(self.row(row[1:]))

    def test_rows_with_other_words(self):
        for row in EVERY_ROW:
            for word in ("add", "box", "hand", "jump", "", "Let", None, 1, True, ["let"], ("let",), {"let": 1}):
                self.no(self.row((word,) + row[1:]))
        self.no(self.row(("add", X, X)))
        self.no(self.row(N1))

    def test_odd_rows(self):
        for thing in odd_things():
            self.no(self.row(thing))
            self.no(program_of((EVERY_ROW[0], thing)))
            self.no(program_of((), (thing,)))

    def test_a_fault_in_the_last_hand_counts(self):
        self.yes(program_of(EVERY_ROW, EVERY_ROW, EVERY_ROW, EVERY_ROW))
        self.no(program_of(EVERY_ROW, EVERY_ROW, EVERY_ROW, EVERY_ROW[:-1] + (("hear", "x", "b"),)))
        self.no(program_of(EVERY_ROW[:-1] + (("hear", "x", "b"),), EVERY_ROW))

    def test_odd_things_are_no_programs(self):
        for thing in odd_things():
            self.no(thing)

    def test_a_door_is_said_at_and_heard_at(self):
        self.yes(program_of((("say", "d", X), ("hear", "x", "d")), (("hear", "d", "d"), ("say", "d", ("of", "d")))))


class Parts(unittest.TestCase):
    program = program_of((("let", "x", N1), ("clock", "l")), (), (("take", "m"),))

    def test_numbers_by_sort(self):
        for sort, names in (("box", ("b", "c")), ("lock", ("l", "m")), ("lane", ("n", "o")), ("door", ("d", "e")),
                            ("hand", ("ha", "hb", "hc"))):
            for number, name in enumerate(names):
                self.assertEqual(kinds(number_of(self.program, sort, name)), kinds(number))

    def test_none_where_the_sort_has_no_such_name(self):
        for sort in PLACES:
            for name in ("", "x", "zz", "box", "B", "b c", "b\n", "hand", "hd", "~"):
                self.assertIsNone(number_of(self.program, sort, name), (sort, name))
        for sort, name in (("box", "l"), ("lock", "b"), ("lane", "d"), ("door", "n"), ("hand", "b"), ("box", "ha")):
            self.assertIsNone(number_of(self.program, sort, name), (sort, name))
        for sort in ("box", "lock", "lane", "door"):
            self.assertIsNone(number_of(SMALL, sort, "ha"))

    def test_the_program_stays(self):
        self.assertEqual(stays(self, number_of, self.program, "hand", "hb"), 1)
        self.assertEqual(stays(self, rows_of, self.program, 2), (("take", "m"),))

    def test_rows_by_hand(self):
        for hand, rows in enumerate(((("let", "x", N1), ("clock", "l")), (), (("take", "m"),))):
            self.assertEqual(kinds(rows_of(self.program, hand)), kinds(rows))


if __name__ == "__main__":
    unittest.main()
