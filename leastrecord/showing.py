"""A program written as lines."""

from leastrecord.words import ROW_PARTS


def shown(program):
    lines = [f"box {name} {value}" for name, value in program[0]]
    lines.extend([f"lock {name}" for name in program[1]])
    lines.extend([f"lane {name}" for name in program[2]])
    lines.extend([f"door {name}" for name in program[3]])
    for name, rows in program[4]:
        lines.append(f"hand {name}")
        lines.extend([shown_row(row) for row in rows])
    return lines


def shown_row(row):
    words = [row[0]]
    for part, thing in zip(ROW_PARTS[row[0]], row[1:]):
        words.append(shown_sum(thing) if part == "sum" else str(thing))
    return " ".join(words)


def shown_sum(tree):
    if tree[0] == "num" or tree[0] == "of":
        return str(tree[1])
    return " ".join([tree[0]] + [shown_sum(part) for part in tree[1:]])
