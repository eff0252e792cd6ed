import random
import unittest

from helper import CLOCK, PUT, busy_scene, program_of, run_of, same_kind, stays
from leastrecord.answers import shown_look, shown_run
from leastrecord.runs import walked


class ShownLook(unittest.TestCase):
    def test_each_kind(self):
        for look, text in ((("get", "b", 5, None), "get b 5"), (("get", "b", 0, (3, 12)), "get b 0"), (("put", "till", 999, (0, 0)), "put till 999"),
                           (("take", "l", None, None), "take l -"), (("take", "l", None, (1, 2)), "take l -"), (("free", "l", None, None), "free l -"),
                           (("send", "n", 0, 0), "send n 0"), (("fetch", "n", 3, 10), "fetch n 3"), (("say", "abcdefgh", 4, 2), "say abcdefgh 4"),
                           (("clock", "", 0, None), "clock - 0"), (("lot", "", 1, None), "lot - 1"), (("hear", "d", 999, None), "hear d 999")):
            same_kind(self, stays(self, shown_look, look), text)


class ShownRun(unittest.TestCase):
    program = program_of((PUT, CLOCK), (CLOCK,), (PUT,), (PUT,))

    def test_steps(self):
        for run, text in (((), "-"), (run_of(0), "ha"), (run_of(3, 0, (0, 7)), "hd ha ha:7"), (run_of((1, 0), 2, (0, 999), 3), "hb:0 hc ha:999 hd")):
            same_kind(self, stays(self, shown_run, self.program, run), text)

    def test_names_as_they_are(self):
        program = ((), (), (), (), (("abcdefgh", (CLOCK,)), ("z", (CLOCK,))))
        same_kind(self, shown_run(program, run_of((1, 3), (0, 12))), "z:3 abcdefgh:12")

    def test_any_run(self):
        chance = random.Random(140)
        for turn in range(60):
            program, stand, run = busy_scene(chance)
            words = stays(self, shown_run, program, run).split(" ")
            names = [name for name, rows in program[4]]
            told = []
            for word in words if run else []:
                name, colon, gift = word.partition(":")
                told.append((names.index(name), int(gift) if colon else None))
            self.assertEqual(tuple(told), run)
            for hand, look in walked(program, stand, run)[1]:
                kind, thing, value = shown_look(look).split(" ")
                self.assertEqual((kind, "" if thing == "-" else thing, None if value == "-" else int(value)), look[:3])


if __name__ == "__main__":
    unittest.main()
