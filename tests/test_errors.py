import copy
import unittest

from leastrecord import errors
from leastrecord.errors import LeastError, NoBack, NoRow

FIELDS = {
    "NoProgram": ("row", "word"), "NoGo": ("word",), "NoRun": ("place", "word"), "NoFit": ("place", "word"),
    "NoPaper": ("word", "hand", "number"), "NoParts": ("word",), "NoCut": ("word",), "NoLines": ("row",),
}


class Errors(unittest.TestCase):
    def test_the_base_stands_straight_under_value_error(self):
        self.assertEqual(LeastError.__bases__, (ValueError,))

    def test_each_refusal_stands_straight_under_the_base(self):
        for name in list(FIELDS) + ["NoBack", "NoRow"]:
            self.assertEqual(getattr(errors, name).__bases__, (LeastError,), name)

    def test_fields_are_the_things_named_in_their_order(self):
        things = (7, "end", -1)
        for name, fields in FIELDS.items():
            made = getattr(errors, name)(*things[:len(fields)])
            for field, thing in zip(fields, things):
                self.assertEqual(getattr(made, field), thing, name)

    def test_refusals_are_made_of_just_their_things(self):
        for name, fields in FIELDS.items():
            for many in (len(fields) - 1, len(fields) + 1):
                with self.assertRaises(TypeError):
                    getattr(errors, name)(*range(many))

    def test_two_refusals_are_each_their_own(self):
        for name, fields in FIELDS.items():
            one = getattr(errors, name)(*range(len(fields)))
            other = getattr(errors, name)(*range(5, 5 + len(fields)))
            self.assertEqual([getattr(one, field) for field in fields], list(range(len(fields))))
            self.assertEqual([getattr(other, field) for field in fields], list(range(5, 5 + len(fields))))

    def test_two_are_made_of_a_text(self):
        for made in (NoBack("none"), NoRow("none")):
            self.assertIsInstance(made, LeastError)
            self.assertIn("none", str(made))

    def test_a_refusal_is_taken_by_its_own_name_alone(self):
        names = list(FIELDS) + ["NoBack", "NoRow"]
        for name in names:
            made = getattr(errors, name)(*range(len(FIELDS.get(name, "t"))))
            taken = [other for other in names if isinstance(made, getattr(errors, other))]
            self.assertEqual(taken, [name])

    def test_a_copied_refusal_keeps_its_fields(self):
        made = copy.copy(errors.NoPaper("mark", 1, 2))
        self.assertEqual((made.word, made.hand, made.number), ("mark", 1, 2))


if __name__ == "__main__":
    unittest.main()
