import random
import unittest

from helper import busy_rows, program_of, same_kind, stays
from leastrecord.answers import shown_look, shown_run
from leastrecord.desk import Desk
from leastrecord.errors import NoBack, NoFit, NoGo, NoLines, NoProgram, NoRow
from leastrecord.judging import judged, lets_parts
from leastrecord.leading import Lead
from leastrecord.least import spare
from leastrecord.leftout import left_out
from leastrecord.opens import is_enough
from leastrecord.programs import names_of
from leastrecord.reading import read
from leastrecord.recordtexts import read_record, record_lines
from leastrecord.records import is_record, whole_record
from leastrecord.seats import touch_of
from leastrecord.showing import shown
from leastrecord.stands import can_go, first_stand
from leastrecord.steps import gone

LINES = [
    "box till 5", "box cup 0", "lock key", "lane post", "door gate",
    "hand ann", "take key", "get x till", "put till add x 1", "free key", "send post x", "send post 7", "say gate x",
    "hand bob", "clock x", "take key", "get y till", "free key", "fetch y post", "say gate y",
    "hand cat", "lot x 6", "hear y gate", "put cup y",
]
LEAST = "upto 7 6 0; gifts; gifts 9; gifts; edge 0 0 1 1; edge 0 6 1 5"
WHOLE_RUN = ["go ann"] * 7 + ["go bob 9"] + ["go bob"] * 5


def desk_behind(*rows):
    desk = Desk(list(LINES))
    for row in rows:
        desk.say(row)
    return desk


class Desks(unittest.TestCase):
    def told(self, desk, row, text):
        same_kind(self, desk.say(row), text)

    def all(self, desk):
        """What a desk tells of its run and its lead."""
        told = []
        for row in ("run", "can", "at till", "at key", "at post", "at gate", "led", "leads", "waits"):
            try:
                told.append(desk.say(row))
            except NoBack:
                told.append(None)
        return told

    def refused(self, desk, text, error, **fields):
        """A row of this text is refused with just this error, whose fields tell this, and changes nothing."""
        before = self.all(desk)
        with self.assertRaises(error) as caught:
            desk.say(text)
        self.assertIs(type(caught.exception), error, text)
        same_kind(self, list(vars(caught.exception).items()), list(fields.items()))
        self.assertEqual(self.all(desk), before)


class Made(Desks):
    def test_of_a_programs_lines(self):
        desk = stays(self, Desk, list(LINES))
        self.told(desk, "run", "-")
        self.told(desk, "can", "ann bob cat")

    def test_refused_as_reading_is(self):
        for lines, row, word in (([], 0, 0), (["hand"], 0, 1), (["box till 5"], 1, 0), (["hand ann", "get x till"], 1, 2), (["hand ann", "leap 2 1"], 1, 1)):
            with self.assertRaises(NoProgram) as caught:
                Desk(lines)
            self.assertEqual((caught.exception.row, caught.exception.word), (row, word))

    def test_lines_changed_by_their_owner(self):
        lines = list(LINES)
        desk = Desk(lines)
        lines[0] = "box till 9"
        lines.clear()
        self.told(desk, "at till", "5")
        self.told(desk, "go ann", "take key -")
        self.told(desk, "go ann", "get till 5")

    def test_two_desks(self):
        one, other = desk_behind("go ann"), desk_behind("go cat 5", "go cat 7", "lead " + LEAST)
        self.told(one, "run", "ann")
        self.told(other, "run", "cat:5 cat:7")
        self.refused(one, "led", NoBack)
        self.told(other, "next ann", "take key -")
        self.told(other, "back", "ok")
        self.told(one, "at key", "ann")
        self.told(other, "at key", "-")
        self.told(other, "led", "ann")
        self.told(one, "run", "ann")
        self.told(one, "lead " + LEAST, "ok")
        self.told(one, "led", "-")


class TheRun(Desks):
    def test_going(self):
        desk = desk_behind()
        for row, text in (("go bob 9", "clock - 9"), ("go bob", "take key -"), ("go bob", "get till 5"), ("go cat 5", "lot - 5"), ("go cat 999", "hear gate 999"),
                          ("go cat", "put cup 999"), ("go bob", "free key -"), ("go ann", "take key -"), ("go ann", "get till 5"), ("go ann", "put till 6"),
                          ("go ann", "free key -"), ("go ann", "send post 5"), ("go bob", "fetch post 5"), ("go bob", "say gate 5")):
            self.told(desk, row, text)
        self.told(desk, "run", "bob:9 bob bob cat:5 cat:999 cat bob ann ann ann ann ann bob bob")

    def test_going_is_refused_as_a_step_is(self):
        desk = desk_behind("go ann", "go bob 0", "go cat 0", "go cat 0", "go cat")
        self.refused(desk, "go bob", NoGo, word="lock")
        self.refused(desk, "go bob 5", NoGo, word="lock")
        self.refused(desk, "go cat", NoGo, word="end")
        self.refused(desk, "go cat 5", NoGo, word="end")
        self.refused(desk, "go ann 0", NoGo, word="gift")
        self.refused(desk, "go eve", NoGo, word="hand")
        self.refused(desk, "go till", NoGo, word="hand")
        self.refused(desk, "go eve 5", NoGo, word="hand")
        self.refused(desk, "go x", NoGo, word="hand")
        desk = desk_behind("go bob 0", "go bob", "go bob", "go bob")
        self.refused(desk, "go bob", NoGo, word="letter")
        self.refused(desk, "go cat", NoGo, word="gift")
        self.refused(desk, "go cat 6", NoGo, word="gift")
        self.told(desk, "go cat 5", "lot - 5")

    def test_taking_back(self):
        desk = desk_behind()
        self.refused(desk, "back", NoBack)
        states = []
        for row in WHOLE_RUN:
            states.append(self.all(desk))
            desk.say(row)
        for state in states[::-1]:
            self.told(desk, "back", "ok")
            self.assertEqual(self.all(desk), state)
        self.refused(desk, "back", NoBack)

    def test_who_may_go(self):
        desk = desk_behind("go ann", "go bob 3")
        self.told(desk, "can", "ann cat")
        self.told(Desk(["hand ann"]), "can", "-")
        self.told(Desk(["lane post", "hand ann", "fetch x post", "hand bob"]), "can", "-")

    def test_what_stands_at_things(self):
        desk = desk_behind()
        for thing, text in (("till", "5"), ("cup", "0"), ("key", "-"), ("post", "-"), ("gate", "0")):
            self.told(desk, "at " + thing, text)
        desk = desk_behind("go ann", "go ann", "go ann")
        for thing, text in (("till", "6"), ("cup", "0"), ("key", "ann"), ("post", "-"), ("gate", "0")):
            self.told(desk, "at " + thing, text)
        desk = desk_behind(*WHOLE_RUN[:7])
        for thing, text in (("key", "-"), ("post", "5,7"), ("gate", "1")):
            self.told(desk, "at " + thing, text)
        desk = desk_behind(*WHOLE_RUN[:-1])
        for thing, text in (("post", "7"), ("gate", "1")):
            self.told(desk, "at " + thing, text)
        desk = desk_behind("go bob 3", "go bob")
        self.told(desk, "at key", "bob")

    def test_at_any_other_name(self):
        desk = desk_behind("go ann", "go ann")
        for name in ("ann", "bob", "x", "y", "tills", "abcdefgh"):
            self.refused(desk, "at " + name, NoRow)

    def test_a_least_record(self):
        desk = desk_behind()
        self.told(desk, "record", "upto 0 0 0; gifts; gifts; gifts")
        desk = desk_behind("go bob 9", "go cat 0", "go cat 8")
        self.told(desk, "record", "upto 0 1 2; gifts; gifts 9; gifts 0 8")
        desk = desk_behind(*WHOLE_RUN)
        record = read_record(desk.say("record").split("; "))
        program, run = read(LINES), ((0, None),) * 7 + ((1, 9),) + ((1, None),) * 5
        self.assertIs(is_enough(program, first_stand(program), run, record), True)
        self.assertEqual(spare(program, first_stand(program), run, record), [])
        self.told(desk, "judge " + desk.say("record"), "enough")

    def test_judged(self):
        desk = desk_behind(*WHOLE_RUN)
        self.told(desk, "judge " + LEAST, "enough")
        program = read(LINES)
        run = ((0, None),) * 7 + ((1, 9),) + ((1, None),) * 5
        for lines in (LEAST.replace("edge 0 0 1 1; ", ""), LEAST.replace("; edge 0 6 1 5", ""), LEAST.replace("gifts 9", "gifts -")):
            word, blank, rest = desk.say("judge " + lines).partition(" ")
            self.assertEqual(word, "parts")
            names = names_of(program, "hand")
            other = tuple((names.index(step.partition(":")[0]), int(step.partition(":")[2]) if ":" in step else None) for step in rest.split(" "))
            self.assertIs(lets_parts(program, first_stand(program), run, read_record(lines.split("; ")), other), True)
        self.told(desk_behind(), "judge upto 0 0 0; gifts; gifts; gifts", "enough")

    def test_judging_refused(self):
        desk = desk_behind(*WHOLE_RUN)
        for lines, row in (("", 0), (" ", 0), ("upto", 0), ("x", 0), ("upto 1 1 1", 1), ("upto 7 6 0; gifts; gifts 9", 3), ("upto 7 6 0;gifts; gifts 9; gifts", 0),
                           ("upto 7 6 0; gifts; gifts 9; gifts; ", 4), ("upto 7 6 0; gifts; gifts 9; gifts; edge 0 0 1", 4), (LEAST + "; x", 6),
                           (" " + LEAST, 0), (LEAST + " ", 5), ("upto 7 6 0;  gifts; gifts 9; gifts", 1), ("upto 7 6 0; gifts; gifts 09; gifts", 2)):
            self.refused(desk, "judge " + lines, NoLines, row=row)
            self.refused(desk, "lead " + lines, NoLines, row=row)
        for lines in ("upto 7 6; gifts; gifts 9", "upto 7 6 0 0; gifts; gifts 9; gifts; gifts", "upto 7 6 0; gifts; gifts 1000; gifts",
                      LEAST + "; edge 0 6 1 5", LEAST + "; edge 0 0 1 0", LEAST + "; edge 0 7 1 5", LEAST + "; edge 2 0 1 5", LEAST + "; edge 3 0 1 5",
                      "upto 7 6 0; gifts; gifts 9; gifts; edge 0 0 0 1", "upto 1; gifts"):
            self.refused(desk, "judge " + lines, NoFit, place=0, word="shape")
            self.refused(desk, "lead " + lines, NoFit, place=0, word="shape")
        for lines, place, word in (("upto 7 6 0; gifts; gifts 8; gifts", 7, "gift"), ("upto 7 5 0; gifts; gifts 9; gifts", 12, "upto"),
                                   ("upto 7 6 0; gifts; gifts; gifts", 7, "gift"), ("upto 7 6 1; gifts; gifts 9; gifts", 13, "end"),
                                   ("upto 7 6 0; gifts; gifts 9; gifts 5", 13, "end"), ("upto 7 6 0; gifts; gifts 9; gifts; edge 1 0 0 3", 3, "edge")):
            self.refused(desk, "judge " + lines, NoFit, place=place, word=word)
            self.told(desk_behind(), "lead " + lines, "ok")

    def test_hands_left_out(self):
        desk = desk_behind(*WHOLE_RUN, "go cat 5")
        for row, text in (("leave cat", "left ann ann ann ann ann ann ann bob:9 bob bob bob bob bob"), ("leave bob", "left ann ann ann ann ann ann ann cat:5"),
                          ("leave ann", "seen bob 2"), ("leave ann bob", "left cat:5"), ("leave bob ann", "left cat:5"), ("leave cat ann bob", "left -"),
                          ("leave ann cat", "seen bob 2")):
            self.told(desk, row, text)
        self.told(desk_behind(), "leave ann", "left -")
        self.told(desk, "run", "ann ann ann ann ann ann ann bob:9 bob bob bob bob bob cat:5")

    def test_leaving_refused(self):
        desk = desk_behind(*WHOLE_RUN)
        for row in ("leave eve", "leave ann eve", "leave eve ann", "leave till", "leave ann bob cat dan eve", "leave a b c d e f g h i"):
            self.refused(desk, row, NoGo, word="hand")
        for row in ("leave", "leave ", "leave ann ann", "leave ann bob ann", "leave eve eve", "leave ann  bob", "leave ann ", "leave Ann", "leave ann 5", "leave hand"):
            self.refused(desk, row, NoRow)


class TheLead(Desks):
    def test_without_a_lead(self):
        desk = desk_behind("go ann")
        for row in ("undo", "redo", "leads", "led", "waits", "next ann", "next bob"):
            self.refused(desk, row, NoBack)
        for row in ("next eve", "next till"):
            self.refused(desk, row, NoGo, word="hand")
        for row in ("next", "next 5", "next Ann", "next ann bob", "undo ann", "undo ", "led ann"):
            self.refused(desk, row, NoRow)

    def test_led_again(self):
        desk = desk_behind("go cat 5")
        self.told(desk, "lead " + LEAST, "ok")
        self.told(desk, "led", "-")
        self.told(desk, "leads", "ann bob")
        self.told(desk, "waits", "-")
        for row, text in (("next bob", "clock - 9"), ("leads", "ann"), ("waits", "bob edge ann.0"), ("next ann", "take key -"), ("waits", "bob lock key"),
                          ("next ann", "get till 5"), ("undo", "get till 5"), ("redo", "get till 5"), ("led", "bob:9 ann ann"), ("next ann", "put till 6"),
                          ("next ann", "free key -"), ("leads", "ann bob"), ("waits", "-"), ("next bob", "take key -"), ("next bob", "get till 6"),
                          ("next bob", "free key -"), ("waits", "bob letter post"), ("next ann", "send post 5"), ("next bob", "fetch post 5"),
                          ("waits", "bob edge ann.6"), ("next ann", "send post 7"), ("next ann", "say gate 5"), ("leads", "bob"), ("next bob", "say gate 5"),
                          ("leads", "-"), ("waits", "-"), ("run", "cat:5")):
            self.told(desk, row, text)
        self.told(desk, "led", "bob:9 ann ann ann ann bob bob bob ann bob ann ann bob")

    def test_refused(self):
        desk = desk_behind("lead " + LEAST)
        self.refused(desk, "undo", NoBack)
        self.refused(desk, "redo", NoBack)
        self.refused(desk, "next eve", NoGo, word="hand")
        self.refused(desk, "next cat", NoGo, word="upto")
        desk.say("next ann")
        desk.say("next bob")
        self.refused(desk, "next bob", NoGo, word="lock")
        self.refused(desk, "redo", NoBack)
        desk.say("undo")
        desk.say("undo")
        self.refused(desk, "undo", NoBack)
        desk.say("redo")
        self.told(desk, "led", "ann")
        desk.say("next ann")
        self.refused(desk, "redo", NoBack)

    def test_each_word_that_waits(self):
        desk = desk_behind("lead upto 9 2 3; gifts; gifts -; gifts 7; edge 0 8 1 1")
        self.told(desk, "waits", "bob kept -; cat gift -")
        self.refused(desk, "next bob", NoGo, word="kept")
        self.refused(desk, "next cat", NoGo, word="gift")
        for turn in range(7):
            desk.say("next ann")
        self.told(desk, "waits", "ann end -; bob kept -; cat gift -")
        self.told(desk, "leads", "-")
        self.refused(desk, "next ann", NoGo, word="end")
        desk = desk_behind("lead upto 1 1 1; gifts; gifts 3; gifts 3; edge 0 0 1 0; edge 0 0 2 0; edge 1 0 0 0; edge 2 0 0 0")
        self.told(desk, "waits", "ann edge bob.0; bob edge ann.0; cat edge ann.0")
        self.refused(desk, "next cat", NoGo, word="edge")

    def test_in_the_place_of_an_earlier_one(self):
        desk = desk_behind("lead " + LEAST, "next ann")
        for row in ("lead x", "lead upto 1; gifts", "lead"):
            with self.assertRaises((NoLines, NoFit, NoRow)):
                desk.say(row)
            self.told(desk, "led", "ann")
        self.told(desk, "lead upto 0 0 1; gifts; gifts; gifts 3", "ok")
        self.told(desk, "led", "-")
        self.refused(desk, "undo", NoBack)
        self.told(desk, "next cat", "lot - 3")

    def test_the_run_and_the_lead_are_apart(self):
        desk = desk_behind("go ann", "lead " + LEAST, "next bob")
        self.told(desk, "at key", "ann")
        self.told(desk, "next ann", "take key -")
        self.told(desk, "run", "ann")
        self.told(desk, "back", "ok")
        self.told(desk, "led", "bob:9 ann")


class NamesLikeRows(Desks):
    """Rows' words are no words of the language: hands and things may be called like them."""

    def test_hands_and_things(self):
        desk = Desk(["box back 5", "lock can", "hand led", "get x back", "hand lead", "take can", "hand undo", "clock x"])
        for row, text in (("go led", "get back 5"), ("go undo 3", "clock - 3"), ("can", "lead"), ("go lead", "take can -"), ("can", "-"), ("at back", "5"),
                          ("at can", "lead"), ("run", "led undo:3 lead"), ("leave undo led", "left lead"), ("leave led", "left undo:3 lead"),
                          ("lead upto 1 1 1; gifts; gifts; gifts 4", "ok"), ("next undo", "clock - 4"), ("next lead", "take can -"), ("next led", "get back 5"),
                          ("led", "undo:4 lead led"), ("undo", "get back 5"), ("leads", "led")):
            self.told(desk, row, text)


class NoRows(Desks):
    def test_rows_that_are_none(self):
        desk = desk_behind("go ann", "lead " + LEAST, "next ann")
        for row in ("", " ", "\n", "x", "go", "go ", "go  ann", " go ann", "go ann ", "go ann\n", "\ngo ann", "go\nann", "Go ann", "GO ann", "go Ann", "go ANN",
                    "go 5", "go 5 ann", "go ann 5 5", "go ann x", "go ann -1", "go ann 1000", "go ann 05", "go ann 00", "go ann 007", "go ann +1", "go ann 1.0",
                    "go ann -", "go ann ", "go ann  5", "go ann 5 ", "go ann 5\n", "go ann 9999999999", "go ann " + "9" * 2000, "go abcdefghi", "go get", "go hand", "go let",
                    "go a-b", "go a1", "back back", "back ", " back", "back ann", "backs", "Back", "can ", "can ann", "CAN", "run ", "run 1", "at", "at ", "at  till",
                    "at till key", "at Till", "at 5", "at abcdefghi", "at box", "at till ", "at till\n", "at -", "record ", "record 1", "judge", "judge\n", "Judge x",
                    "judges x", "leave", "leave ", "leave ann ann", "leave 5", "leave abcdefghi", "lead", "lead\n", "Lead x", "leads ", "leads ann", "next", "next ",
                    "next ann 5", "next ann bob", "next Ann", "next 5", "undo ", "undo 1", "redo ", "redo x", "led ", "led x", "waits ", "waits ann", "say", "say ann",
                    "get x till", "hand ann", "box till 5", "goann", "go,ann", "go ann; go bob", "~", "-", "go -"):
            self.refused(desk, row, NoRow)

    def test_ahead_of_all_else(self):
        desk = desk_behind()
        for row in ("go eve 1000", "next eve eve", "next ann ann", "leave eve eve", "undo x", "redo ", "go eve x"):
            self.refused(desk, row, NoRow)

    def test_what_stands_behind_the_first_blank_is_anything(self):
        desk = desk_behind("lead " + LEAST)
        for text in ("", " ", "  ", "\n", "x", "judge x", "; ", "; ; ", "~" * 2990, "upto\n1"):
            self.refused(desk, "judge " + text, NoLines, row=0)
            self.refused(desk, "lead " + text, NoLines, row=0)


class AnyRows(Desks):
    def test_any_rows(self):
        chance = random.Random(150)
        met = {}
        for turn in range(60):
            program = program_of(*[busy_rows(chance, chance.randrange(2, 9)) for hand in range(chance.choice([1, 2, 3, 4]))])
            desk = Desk(shown(program))
            stand = first_stand(program)
            names = names_of(program, "hand")
            run, stands, lead = [], [stand], None
            for row_number in range(80):
                row = self.random_row(chance, program, stands[-1], run)
                word = row.partition(" ")[0]
                expected = self.answer(program, names, run, stands, lead, row)
                if isinstance(expected, tuple):
                    error, fields = expected
                    self.refused_plainly(desk, row, error, fields)
                    met[error.__name__] = met.get(error.__name__, 0) + 1
                elif callable(expected):
                    expected(self, desk.say(row))
                    met[word] = met.get(word, 0) + 1
                else:
                    same_kind(self, desk.say(row), expected)
                    met[word] = met.get(word, 0) + 1
                if word == "lead" and not isinstance(expected, tuple):
                    lead = Lead(program, stand, read_record(row[5:].split("; ")))
        for word in ("go", "back", "can", "run", "at", "record", "judge", "leave", "lead", "next", "undo", "redo", "leads", "led", "waits",
                     "NoGo", "NoBack", "NoRow", "NoFit"):
            self.assertGreater(met.get(word, 0), 8, word)

    def refused_plainly(self, desk, row, error, fields):
        with self.assertRaises(error) as caught:
            desk.say(row)
        self.assertIs(type(caught.exception), error)
        self.assertEqual(tuple(vars(caught.exception).values()), fields)

    def random_row(self, chance, program, here, run):
        hand = chance.choice(names_of(program, "hand") + (["eve"] if chance.random() < 0.1 else []))
        stand = first_stand(program)
        record = whole_record(program, stand, tuple(run))
        if chance.random() < 0.3:
            record = (record[0], record[1], record[2][1:])
        if chance.random() < 0.1:
            record = (record[0], record[1], (((0, 99), (1, 99)),))
        lines = "; ".join(record_lines(record))
        gos = []
        for one in can_go(program, here):
            kind = touch_of(program, one, here[1][one])[0]
            name = names_of(program, "hand")[one]
            gos.append(f"go {name} {chance.randrange(3)}" if kind in ("clock", "lot", "hear") else f"go {name}")
        return chance.choice(gos * 3 + [
            f"go {hand}", f"go {hand} 3", "back", "can", "run", "record", f"judge {lines}", f"leave {hand}", f"lead {lines}" if len(run) > 3 else "run",
            f"next {hand}", f"next {hand}", f"next {hand}", f"next {hand}", "undo", "undo", "redo", "redo",
            "leads", "led", "waits", f"at {chance.choice('bclmnodexz')}", f"{hand} go"])

    def answer(self, program, names, run, stands, lead, row):
        """What a desk has to tell of a row, by the other modules; the run, its stands and the lead go on with it."""
        words = row.split(" ")
        word = words[0]
        first = stands[0]
        if word not in ("go", "back", "can", "run", "record", "judge", "leave", "lead", "next", "undo", "redo", "leads", "led", "waits", "at"):
            return (NoRow, ())
        if word in ("go", "leave", "next") and words[1] not in names:
            return (NoGo, ("hand",))
        try:
            if word == "go":
                hand, gift = names.index(words[1]), int(words[2]) if len(words) == 3 else None
                stand, look = gone(program, stands[-1], hand, gift)
                run.append((hand, gift))
                stands.append(stand)
                return shown_look(look)
            if word == "back":
                if not run:
                    return (NoBack, ())
                run.pop()
                stands.pop()
                return "ok"
            if word == "can":
                return " ".join(names[hand] for hand in can_go(program, stands[-1])) or "-"
            if word == "run":
                return shown_run(program, tuple(run))
            if word == "at":
                return self.at_thing(program, names, stands[-1], words[1])
            if word == "leave":
                told = left_out(program, first, tuple(run), (names.index(words[1]),))
                return f"left {shown_run(program, told[1])}" if told[0] == "left" else f"seen {names[told[1][0]]} {told[1][1]}"
            if word in ("record", "judge", "lead"):
                return self.of_records(program, first, tuple(run), word, row.partition(" ")[2])
            if lead is None:
                return (NoBack, ())
            if word == "next":
                return shown_look(lead.go(names.index(words[1])))
            if word in ("undo", "redo"):
                return shown_look(lead.back() if word == "undo" else lead.on())
            if word == "leads":
                return " ".join(names[hand] for hand in lead.can()) or "-"
            if word == "led":
                return shown_run(program, lead.run_now())
            return "; ".join(self.wait(names, *wait) for wait in lead.waiting()) or "-"
        except (NoGo, NoBack, NoFit, NoLines) as refusal:
            return (type(refusal), tuple(vars(refusal).values()))

    def wait(self, names, hand, word, what):
        if what is None:
            return f"{names[hand]} {word} -"
        return f"{names[hand]} {word} " + (what if isinstance(what, str) else f"{names[what[0]]}.{what[1]}")

    def at_thing(self, program, names, stand, name):
        if name in "bc":
            return str(stand[2]["bc".index(name)][0])
        if name in "lm":
            holder = stand[3]["lm".index(name)][0]
            return "-" if holder is None else names[holder]
        if name in "no":
            return ",".join(str(letter) for letter in stand[4]["no".index(name)][2]) or "-"
        if name in "de":
            return str(stand[5]["de".index(name)])
        return (NoRow, ())

    def of_records(self, program, first, run, word, text):
        if word == "record":
            def is_least(test, told):
                record = read_record(told.split("; "))
                test.assertIs(is_enough(program, first, run, record), True)
                test.assertEqual(spare(program, first, run, record), [])
            return is_least
        record = read_record(text.split("; "))
        if not is_record(program, first, record):
            return (NoFit, (0, "shape"))
        if word == "lead":
            return "ok"
        told = judged(program, first, run, record)
        return "enough" if told[0] == "paper" else f"parts {shown_run(program, told[1])}"


if __name__ == "__main__":
    unittest.main()
