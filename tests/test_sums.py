import unittest

from helper import N0, N1, X, Y, kinds, nested, odd_things, stays
from leastrecord.sums import is_sum, worth


def wrapped(many):
    """A number within so many nots."""
    return nested(lambda tree: ("not", tree), ("num", 3), many)


def sums_of(many, leaf):
    """A sum of just so many sums, at most four deep."""
    pairs = ("add", ("add", leaf, leaf), ("add", leaf, leaf))  # seven sums
    wider = {11: ("add", pairs, ("sub", leaf, leaf)), 12: ("add", pairs, ("not", ("sub", leaf, leaf))),
             13: ("add", pairs, ("mul", ("not", leaf), ("not", leaf))), 15: ("add", pairs, pairs)}
    return wider[many]


class IsSum(unittest.TestCase):
    def yes(self, thing):
        self.assertIs(stays(self, is_sum, thing), True, thing)

    def no(self, thing):
        self.assertIs(stays(self, is_sum, thing), False, thing)

    def test_each_kind_of_sum(self):
        for thing in (N0, X, ("not", X), ("add", X, Y), ("sub", X, N1), ("mul", N1, N1), ("less", X, X), ("same", X, N0)):
            self.yes(thing)

    def test_numbers_from_0_to_999(self):
        for number in (0, 1, 500, 999):
            self.yes(("num", number))
        for number in (-1, 1000, 1001, -999, 10 ** 39, True, False, None, "1", "a", (), (1,), [1], {}):
            self.no(("num", number))

    def test_pockets_are_names(self):
        for name in ("a", "abcdefgh", "num", "of", "lets"):
            self.yes(("of", name))
        for name in ("", "abcdefghi", "let", "hand", "A", "a1", 1, None, True, ("a",), ["a"], {"a": 1}):
            self.no(("of", name))

    def test_twelve_sums_and_thirteen(self):
        for leaf in (N0, N1, X):
            self.yes(sums_of(11, leaf))
            self.yes(sums_of(12, leaf))
            self.no(sums_of(13, leaf))
            self.no(sums_of(15, leaf))

    def test_twelve_and_thirteen_in_chains(self):
        chain = ("add", N1, ("add", N1, ("add", N1, ("add", N1, N1))))  # nine sums, five deep
        self.yes(chain)
        self.yes(("add", ("not", N1), ("add", ("not", N1), ("add", ("not", N1), ("add", N1, N1)))))
        self.no(("add", ("not", ("not", N1)), ("add", ("not", N1), ("add", ("not", N1), ("add", N1, N1)))))

    def test_five_deep_and_six(self):
        self.yes(wrapped(3))
        self.yes(wrapped(4))
        self.no(wrapped(5))
        self.no(wrapped(6))
        self.no(wrapped(80))

    def test_depth_at_either_part(self):
        self.yes(("add", N1, wrapped(3)))
        self.yes(("add", wrapped(3), N1))
        self.no(("add", N1, wrapped(4)))
        self.no(("add", wrapped(4), N1))

    def test_parts_too_few_and_too_many(self):
        for word in ("add", "sub", "mul", "less", "same"):
            for parts in ((), (N1,), (N1, N1, N1), (N1, N1, None)):
                self.no((word,) + parts)
            self.yes((word, N1, N1))
        for parts in ((), (N1, N1), (N1, None)):
            self.no(("not",) + parts)
        for thing in (("num",), ("num", 1, 1), ("num", 1, None), ("of",), ("of", "a", "a"), ("of", "a", None), ()):
            self.no(thing)

    def test_lists_are_no_tuples(self):
        for thing in (["num", 1], ["of", "a"], ["not", N1], ["add", N1, N1], ("not", ["num", 1]), ("add", N1, ["of", "a"]),
                      ("add", ["num", 1], N1), ("not", [N1])):
            self.no(thing)

    def test_a_fault_anywhere_within(self):
        for bad in (("num", True), ("num", 1000), ("of", "get"), 1, "a", None, (), ("nor", N1), ("add", N1)):
            for thing in (("not", bad), ("add", bad, N1), ("add", N1, bad), ("same", N1, ("not", ("less", bad, N1))),
                          ("add", ("add", bad, N1), N1), ("add", ("add", N1, N1), ("add", N1, ("add", N1, bad)))):
                self.no(thing)

    def test_other_words_and_odd_words(self):
        for word in ("let", "neg", "", "Add", "add ", None, 1, True, ["add"], ("add",), {"add": 1}, [], {}):
            self.no((word, N1))
            self.no((word, N1, N1))
            self.no((word, 1))
            self.no((word, "a"))

    def test_odd_things_are_no_sums(self):
        for thing in odd_things():
            self.no(thing)

    def test_odd_things_as_parts(self):
        for thing in odd_things():
            self.no(("not", thing))
            self.no(("add", thing, N1))
            self.no(("add", N1, thing))
            self.no((thing, N1))
            self.no((thing, N1, N1))

    def test_shared_parts_count_each_time(self):
        four = ("add", ("not", N1), N1)
        self.yes(("add", four, four))
        self.no(("add", ("add", four, four), four))


class Worth(unittest.TestCase):
    def test_numbers(self):
        for number in (0, 1, 999):
            self.assertEqual(worth(("num", number), (("x", 5),)), number)

    def test_pockets_and_those_that_are_not_there(self):
        pockets = (("a", 7), ("x", 999), ("y", 1))
        for name, value in (("a", 7), ("x", 999), ("y", 1), ("z", 0), ("b", 0)):
            self.assertEqual(worth(("of", name), pockets), value)
        self.assertEqual(worth(("of", "a"), ()), 0)

    def of(self, word, one, other):
        return worth((word, ("num", one), ("num", other)), ())

    def test_add_goes_round_at_1000(self):
        for one, other, told in ((0, 0, 0), (1, 2, 3), (999, 0, 999), (500, 499, 999), (500, 500, 0), (999, 1, 0),
                                 (999, 2, 1), (999, 999, 998)):
            self.assertEqual(self.of("add", one, other), told)
            self.assertEqual(self.of("add", other, one), told)

    def test_sub_goes_round_below_0(self):
        for one, other, told in ((0, 0, 0), (5, 3, 2), (3, 5, 998), (0, 1, 999), (0, 999, 1), (999, 999, 0), (999, 0, 999)):
            self.assertEqual(self.of("sub", one, other), told)

    def test_mul_goes_round_at_1000(self):
        for one, other, told in ((0, 999, 0), (1, 999, 999), (3, 4, 12), (10, 100, 0), (25, 40, 0), (37, 27, 999),
                                 (999, 999, 1), (500, 3, 500)):
            self.assertEqual(self.of("mul", one, other), told)
            self.assertEqual(self.of("mul", other, one), told)

    def test_less(self):
        for one, other, told in ((0, 1, 1), (1, 0, 0), (3, 3, 0), (998, 999, 1), (999, 0, 0), (0, 0, 0), (2, 10, 1)):
            self.assertEqual(self.of("less", one, other), told)

    def test_same(self):
        for one, other, told in ((0, 0, 1), (0, 1, 0), (1, 0, 0), (999, 999, 1), (7, 8, 0)):
            self.assertEqual(self.of("same", one, other), told)

    def test_not(self):
        for one, told in ((0, 1), (1, 0), (2, 0), (999, 0)):
            self.assertEqual(worth(("not", ("num", one)), ()), told)
        self.assertEqual(worth(("not", X), ()), 1)
        self.assertEqual(worth(("not", X), (("x", 1),)), 0)

    def test_what_is_told_are_numbers_and_no_truths(self):
        for tree in (("less", N0, N1), ("less", N1, N0), ("same", N1, N1), ("same", N0, N1), ("not", N0), ("not", N1)):
            self.assertEqual(kinds(worth(tree, ())), kinds(int(worth(tree, ()))))

    def test_sums_within_sums_go_round_at_each_step(self):
        pockets = (("x", 600), ("y", 3))
        self.assertEqual(worth(("less", ("add", X, X), X), pockets), 1)
        self.assertEqual(worth(("sub", ("mul", X, Y), ("add", X, Y)), pockets), 197)
        self.assertEqual(worth(("same", ("sub", Y, X), ("num", 403)), pockets), 1)
        self.assertEqual(worth(("not", ("sub", X, ("num", 600))), pockets), 1)
        self.assertEqual(worth(("less", ("sub", N0, N1), N1), pockets), 0)
        self.assertEqual(worth(("mul", ("add", N1, ("add", N1, ("add", N1, ("of", "z")))), Y), pockets), 9)

    def test_the_first_and_the_second_are_not_swapped(self):
        pockets = (("x", 10), ("y", 4))
        self.assertEqual(worth(("sub", X, Y), pockets), 6)
        self.assertEqual(worth(("sub", Y, X), pockets), 994)
        self.assertEqual(worth(("less", Y, X), pockets), 1)
        self.assertEqual(worth(("less", X, Y), pockets), 0)

    def test_twelve_sums(self):
        self.assertEqual(worth(sums_of(12, N1), ()), 5)

    def test_nothing_handed_in_is_changed(self):
        self.assertEqual(stays(self, worth, ("add", X, ("not", Y)), (("x", 4),)), 5)


if __name__ == "__main__":
    unittest.main()
