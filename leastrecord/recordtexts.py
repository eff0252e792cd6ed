"""Records written as lines, and read from them."""

from leastrecord.errors import NoLines
from leastrecord.programs import MOST_OF_A_SORT
from leastrecord.reading import writes_number

# Forty figures.
MOST_NUMBER = 9999999999999999999999999999999999999999


def record_lines(record):
    lines = [line_of("upto", record[0])]
    lines.extend([line_of("gifts", gifts) for gifts in record[1]])
    lines.extend([line_of("edge", first + second) for first, second in record[2]])
    return lines


def line_of(word, numbers):
    return " ".join([word] + [shown_number(number) for number in numbers])


def shown_number(number):
    return "-" if number is None else str(number)


def read_record(lines):
    upto = [number_in(word, 0) for word in words_behind(lines, 0, "upto")]
    if not 1 <= len(upto) <= MOST_OF_A_SORT:
        raise NoLines(0)
    first_edge = 1 + len(upto)
    gifts = [read_gifts(lines, row) for row in range(1, first_edge)]
    edges = [read_edge(lines, row) for row in range(first_edge, len(lines))]
    return (tuple(upto), tuple(gifts), tuple(edges))


def read_gifts(lines, row):
    return tuple([number_or_none(word, row) for word in words_behind(lines, row, "gifts")])


def read_edge(lines, row):
    numbers = tuple([number_in(word, row) for word in words_behind(lines, row, "edge")])
    if len(numbers) != 4:
        raise NoLines(row)
    return (numbers[:2], numbers[2:])


def words_behind(lines, row, word):
    """The words of a line behind its first one, which has to be this word."""
    if row == len(lines):
        raise NoLines(row)
    words = lines[row].split(" ")
    if words[0] != word:
        raise NoLines(row)
    return words[1:]


def number_in(word, row):
    if not writes_number(word, 0, MOST_NUMBER):
        raise NoLines(row)
    return int(word)


def number_or_none(word, row):
    return None if word == "-" else number_in(word, row)
