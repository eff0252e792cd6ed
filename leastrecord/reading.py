"""A program read from its lines."""

from leastrecord.errors import NoProgram
from leastrecord.programs import LEAST_CHANCES, MOST_CHANCES, MOST_OF_A_SORT, MOST_ROWS
from leastrecord.sums import DEEPEST, MOST_SUMS
from leastrecord.words import ROW_PARTS, SORTS, SUM_PARTS, is_name

FIGURES = "0123456789"
MOST_VALUE = 999


class Line:
    """The words of one line, gone over from the first on."""

    def __init__(self, row, text):
        self.row = row
        self.words = text.split(" ")
        self.place = 0

    def coming(self):
        if self.place == len(self.words):
            raise NoProgram(self.row, self.place)
        return self.words[self.place]

    def go_over(self, fits):
        """Past the coming word, where it can stand there."""
        if not fits:
            raise NoProgram(self.row, self.place)
        self.place += 1

    def close(self):
        if self.place < len(self.words):
            raise NoProgram(self.row, self.place)


class Draft:
    """What the lines above tell of the program."""

    def __init__(self):
        self.latest = "box"
        self.names = {"box": [], "lock": [], "lane": [], "door": [], "hand": []}
        self.worths = []
        self.rows = []
        self.leaps = []

    def may_tell(self, sort):
        in_turn = SORTS.index(sort) >= SORTS.index(self.latest)
        return in_turn and len(self.names[sort]) < MOST_OF_A_SORT

    def may_have_row(self):
        return len(self.rows) > 0 and len(self.rows[-1]) < MOST_ROWS

    def has_name(self, name):
        return any([name in self.names[sort] for sort in SORTS])

    def tell(self, sort, name):
        self.latest = sort
        self.names[sort].append(name)
        if sort == "hand":
            self.rows.append([])

    def finished(self):
        boxes = tuple(zip(self.names["box"], self.worths))
        hands = tuple(zip(self.names["hand"], [tuple(rows) for rows in self.rows]))
        return (boxes, tuple(self.names["lock"]), tuple(self.names["lane"]), tuple(self.names["door"]), hands)


def read(lines):
    draft = Draft()
    for row, text in enumerate(lines):
        read_line(draft, Line(row, text))
    if len(draft.rows) == 0:
        raise NoProgram(len(lines), 0)
    # Only now is it known how many rows each hand has.
    for row, target, hand in draft.leaps:
        if target > len(draft.rows[hand]):
            raise NoProgram(row, 1)
    return draft.finished()


def read_line(draft, line):
    word = line.coming()
    if word in SORTS:
        line.go_over(draft.may_tell(word))
        read_thing(draft, line, word)
    else:
        line.go_over(word in ROW_PARTS and draft.may_have_row())
        read_row(draft, line, word)
    line.close()


def read_thing(draft, line, sort):
    name = line.coming()
    line.go_over(is_name(name) and not draft.has_name(name))
    draft.tell(sort, name)
    if sort == "box":
        draft.worths.append(read_number(line, 0, MOST_VALUE))


def read_row(draft, line, word):
    row = [word]
    for part in ROW_PARTS[word]:
        row.append(read_part(draft, line, part))
    draft.rows[-1].append(tuple(row))
    if word == "leap":
        draft.leaps.append((line.row, row[1], len(draft.rows) - 1))


def read_part(draft, line, part):
    if part == "sum":
        return read_sum(line, line.place, 1)
    if part == "target":
        return read_number(line, 0, MOST_ROWS)
    if part == "chances":
        return read_number(line, LEAST_CHANCES, MOST_CHANCES)
    word = line.coming()
    line.go_over(is_name(word) if part == "pocket" else word in draft.names[part])
    return word


def read_number(line, least, most):
    word = line.coming()
    line.go_over(writes_number(word, least, most))
    return int(word)


def writes_number(word, least, most):
    if word == "" or len(word) > len(str(most)) or not all([sign in FIGURES for sign in word]):
        return False
    return str(int(word)) == word and least <= int(word) <= most


def read_sum(line, start, deep):
    """The sum that comes, so deep in the one whose first word is at start."""
    word = line.coming()
    # Each sum has just one word of its own, so the words gone over count the sums.
    has_room = line.place - start < MOST_SUMS and deep <= DEEPEST
    line.go_over(has_room and (word in SUM_PARTS or is_name(word) or writes_number(word, 0, MOST_VALUE)))
    if is_name(word):
        return ("of", word)
    if word not in SUM_PARTS:
        return ("num", int(word))
    tree = [word]
    for turn in range(SUM_PARTS[word]):
        tree.append(read_sum(line, start, deep + 1))
    return tuple(tree)
