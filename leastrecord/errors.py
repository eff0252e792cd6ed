"""The refusals: each one stands straight under LeastError."""


class LeastError(ValueError):
    """Any refusal."""


class NoProgram(LeastError):
    """Lines that write no program: the first line and word that can't stand."""

    def __init__(self, row, word):
        self.row = row
        self.word = word


class NoGo(LeastError):
    """A hand that can't make its touch."""

    def __init__(self, word):
        self.word = word


class NoRun(LeastError):
    """Something that is no run: the first step that can't be done."""

    def __init__(self, place, word):
        self.place = place
        self.word = word


class NoFit(LeastError):
    """A run and a record that don't go together."""

    def __init__(self, place, word):
        self.place = place
        self.word = word


class NoPaper(LeastError):
    """A paper that isn't let by: its first fault."""

    def __init__(self, word, hand, number):
        self.word = word
        self.hand = hand
        self.number = number


class NoParts(LeastError):
    """Something that is no run that parts."""

    def __init__(self, word):
        self.word = word


class NoCut(LeastError):
    """Counts at which a run can't be cut."""

    def __init__(self, word):
        self.word = word


class NoLines(LeastError):
    """Lines that write no record or no paper: the first that can't stand."""

    def __init__(self, row):
        self.row = row


class NoBack(LeastError):
    """Nothing to take back, to make again or to ask; made of a text."""


class NoRow(LeastError):
    """No row that a desk takes; made of a text."""
