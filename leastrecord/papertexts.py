"""Papers written as lines, and read from them."""

from leastrecord.errors import NoLines
from leastrecord.programs import MOST_OF_A_SORT
from leastrecord.recordtexts import line_of, number_in, number_or_none, shown_number, words_behind
from leastrecord.steps import GIFTED, MET_SORT
from leastrecord.words import is_name

# The words of a touch's line ahead of its claim.
LOOK_WORDS = 4


def paper_lines(paper):
    lines = [line_of("paper", [len(paper[1])]), line_of("order", paper[0])]
    for looks, claims in zip(paper[1], paper[2]):
        lines.append("hand")
        lines.extend([touch_line(look, claim) for look, claim in zip(looks, claims)])
    return lines


def touch_line(look, claim):
    words = [look[0], "-" if look[1] == "" else look[1], shown_number(look[2]), shown_mark(look[3])]
    return line_of(" ".join(words), claim)


def shown_mark(mark):
    if isinstance(mark, tuple):
        return ".".join([str(number) for number in mark])
    return shown_number(mark)


def read_paper(lines):
    many = read_many(lines)
    order = tuple([number_in(word, 1) for word in words_behind(lines, 1, "order")])
    tables = []
    claims = []
    for row in range(2, len(lines)):
        if lines[row] == "hand" and len(tables) < many:
            tables.append([])
            claims.append([])
        else:
            words = touch_words(lines, row, len(tables), many)
            tables[-1].append(read_look(words[:LOOK_WORDS], row))
            claims[-1].append(tuple([number_in(word, row) for word in words[LOOK_WORDS:]]))
    if len(tables) < many:
        raise NoLines(len(lines))
    return (order, tuple([tuple(looks) for looks in tables]), tuple([tuple(part) for part in claims]))


def read_many(lines):
    numbers = [number_in(word, 0) for word in words_behind(lines, 0, "paper")]
    if len(numbers) != 1 or not 1 <= numbers[0] <= MOST_OF_A_SORT:
        raise NoLines(0)
    return numbers[0]


def touch_words(lines, row, begun, many):
    """The words of a touch's line, which stands behind a hand's begin."""
    words = lines[row].split(" ")
    if begun == 0 or len(words) != LOOK_WORDS + many:
        raise NoLines(row)
    return words


def read_look(words, row):
    if words[0] not in MET_SORT and words[0] not in GIFTED:
        raise NoLines(row)
    if words[1] != "-" and not is_name(words[1]):
        raise NoLines(row)
    thing = "" if words[1] == "-" else words[1]
    return (words[0], thing, number_or_none(words[2], row), read_mark(words[3], row))


def read_mark(word, row):
    parts = word.split(".")
    if len(parts) == 2:
        return tuple([number_in(part, row) for part in parts])
    return number_or_none(word, row)
