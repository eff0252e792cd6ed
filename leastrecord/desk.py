"""A desk: it is told rows, keeps a run and a lead, and answers texts."""

from leastrecord.answers import hand_name, shown_hands, shown_look, shown_run, shown_state, shown_waiting
from leastrecord.errors import NoBack, NoFit, NoGo, NoRow
from leastrecord.judging import judged
from leastrecord.leading import Lead
from leastrecord.least import least_record
from leastrecord.leftout import first_seen, left_run
from leastrecord.programs import number_of
from leastrecord.reading import MOST_VALUE, read, writes_number
from leastrecord.recordtexts import read_record, record_lines
from leastrecord.records import is_record
from leastrecord.stands import PLACE_OF, can_go, first_stand, state_of
from leastrecord.steps import gone
from leastrecord.words import is_name

# Rows of one word about the run, rows of one word about the lead, and rows with lines behind the first blank.
RUN_WORDS = ("back", "can", "run", "record")
LEAD_WORDS = ("undo", "redo", "leads", "led", "waits")
WITH_LINES = ("judge", "lead")

# What stands between a record's lines.
BETWEEN = "; "


class Desk:
    """A run from the first stand of a program, and perhaps a lead."""

    def __init__(self, lines):
        self.program = read(lines)
        # The first stand, and the one behind each step.
        self.stands = [first_stand(self.program)]
        self.steps = []
        self.lead = None

    def say(self, row):
        words = words_of(row)
        if words[0] in ("lead", "next") or words[0] in LEAD_WORDS:
            return self.answer_of_lead(words)
        return self.answer_of_run(words)

    def answer_of_run(self, words):
        word = words[0]
        if word == "go":
            return self.gone_on(words)
        if word == "back":
            return self.taken_back()
        if word == "can":
            return shown_hands(self.program, can_go(self.program, self.stands[-1]))
        if word == "run":
            return shown_run(self.program, self.steps)
        if word == "at":
            return shown_thing(self.program, self.stands[-1], words[1])
        if word == "record":
            return BETWEEN.join(record_lines(least_record(self.program, self.stands[0], tuple(self.steps))))
        if word == "judge":
            return self.judgement(words[1])
        return self.left(words[1:])

    def gone_on(self, words):
        hand = hand_of(self.program, words[1])
        gift = int(words[2]) if len(words) == 3 else None
        told = gone(self.program, self.stands[-1], hand, gift)
        self.stands.append(told[0])
        self.steps.append((hand, gift))
        return shown_look(told[1])

    def taken_back(self):
        if self.steps == []:
            raise NoBack("no touch is made")
        self.stands.pop()
        self.steps.pop()
        return "ok"

    def judgement(self, text):
        told = judged(self.program, self.stands[0], tuple(self.steps), self.record_of(text))
        return "enough" if told[0] == "paper" else "parts " + shown_run(self.program, told[1])

    def record_of(self, text):
        """The record from the first stand that is written in a row."""
        record = read_record(text.split(BETWEEN))
        if not is_record(self.program, self.stands[0], record):
            raise NoFit(0, "shape")
        return record

    def left(self, names):
        hands = tuple(sorted([hand_of(self.program, name) for name in names]))
        run = tuple(self.steps)
        event = first_seen(self.program, self.stands[0], run, hands)
        if event is None:
            return "left " + shown_run(self.program, left_run(run, hands))
        return " ".join(["seen", hand_name(self.program, event[0]), str(event[1])])

    def answer_of_lead(self, words):
        word = words[0]
        if word == "lead":
            self.lead = Lead(self.program, self.stands[0], self.record_of(words[1]))
            return "ok"
        # A hand that is none goes ahead of a lead that isn't there.
        hand = hand_of(self.program, words[1]) if word == "next" else None
        if self.lead is None:
            raise NoBack("there is no lead")
        if word == "next":
            return shown_look(self.lead.go(hand))
        if word == "undo":
            return shown_look(self.lead.back())
        if word == "redo":
            return shown_look(self.lead.on())
        if word == "leads":
            return shown_hands(self.program, self.lead.can())
        if word == "led":
            return shown_run(self.program, self.lead.run_now())
        return shown_waiting(self.program, self.lead.waiting())


def words_of(row):
    """The words of a row, refused where it is none; all that stands behind a first blank with lines is one."""
    parts = row.partition(" ")
    if parts[0] in WITH_LINES and parts[1] == " ":
        return [parts[0], parts[2]]
    words = row.split(" ")
    if not is_row(words[0], words[1:]):
        raise NoRow(row)
    return words


def is_row(word, others):
    """Whether words behind the first one can stand there, in a row without lines."""
    if word in RUN_WORDS or word in LEAD_WORDS:
        return others == []
    if others == [] or not is_name(others[0]):
        return False
    if word == "go":
        return len(others) == 1 or (len(others) == 2 and writes_number(others[1], 0, MOST_VALUE))
    if word == "leave":
        return all([is_name(name) for name in others]) and len(set(others)) == len(others)
    return word in ("at", "next") and len(others) == 1


def hand_of(program, name):
    hand = number_of(program, "hand", name)
    if hand is None:
        raise NoGo("hand")
    return hand


def shown_thing(program, stand, name):
    for sort in PLACE_OF:
        if number_of(program, sort, name) is not None:
            return shown_state(program, sort, state_of(program, stand, sort, name))
    raise NoRow(name)
