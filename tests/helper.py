"""What the tests share: odd plain things, and programs to work with."""

import copy

from leastrecord.stands import first_stand
from leastrecord.steps import gone


def nested(wrap, inner, many):
    """inner, wrapped so many times."""
    for turn in range(many):
        inner = wrap(inner)
    return inner


def odd_things():
    """Plain things of every kind, made anew at each call."""
    return [
        None, True, False, 0, 1, -1, 999, 1000, int("9" * 40), -int("9" * 40),
        "", "a", "num", "of", "get", "Ab", "a b", "a\n", "~", "12",
        [], (), {}, [0], (0,), {"a": 1}, ["num", 1], [[], (), {}], ((),), (None,), ("num",),
        ([], []), ({}, {}), ("of", ["a"]), (["num"], 1), ({"a": 0}, 1), {"num": ("num", 1)},
        nested(lambda thing: [thing], 0, 89),
        nested(lambda thing: (thing,), "a", 89),
        nested(lambda thing: {"a": thing}, None, 89),
        nested(lambda thing: ("not", thing), ("num", 1), 88),
        nested(lambda thing: (thing, thing, thing, thing, thing), (), 5),
    ]


def stays(test, ask, *things):
    """ask(*things), and a look whether the things are as they were."""
    before = copy.deepcopy(things)
    shape = repr(things)
    try:
        return ask(*things)
    finally:
        test.assertEqual(things, before)
        test.assertEqual(repr(things), shape)


def kinds(thing):
    """A thing with the kind of each of its parts, so that 1 and True differ."""
    if isinstance(thing, (list, tuple)):
        return (type(thing), [kinds(part) for part in thing])
    return (type(thing), thing)


def same_kind(test, told, asked):
    test.assertEqual(kinds(told), kinds(asked))


def program_of(*rows, boxes=(("b", 5), ("c", 0)), locks=("l", "m"), lanes=("n", "o"), doors=("d", "e")):
    """A program with a hand for each tuple of rows: ha, hb, hc, hd."""
    names = ("ha", "hb", "hc", "hd", "he")
    return (boxes, locks, lanes, doors, tuple(zip(names, rows)))


N0 = ("num", 0)
N1 = ("num", 1)
X = ("of", "x")
Y = ("of", "y")

EVERY_ROW = (
    ("let", "x", ("add", X, N1)), ("leap", 0, N0), ("get", "x", "b"), ("put", "b", X), ("take", "l"), ("free", "l"),
    ("send", "n", X), ("fetch", "x", "n"), ("say", "d", X), ("clock", "x"), ("lot", "x", 6), ("hear", "x", "d"),
)


def random_sum(chance, pockets, most, deep=1):
    """A sum of at most so many sums, within bounds."""
    if most < 3 or deep == 5 or chance.random() < 0.3:
        return chance.choice([("num", chance.randrange(4)), ("num", chance.randrange(1000)), ("of", chance.choice(pockets))])
    word = chance.choice(["add", "sub", "mul", "less", "same", "not"])
    if word == "not":
        return (word, random_sum(chance, pockets, most - 1, deep + 1))
    half = (most - 1) // 2
    return (word, random_sum(chance, pockets, half, deep + 1), random_sum(chance, pockets, most - 1 - half, deep + 1))


def random_rows(chance, many):
    pockets = ["x", "y", "b", "ha"]
    rows = []
    for turn in range(many):
        tree = random_sum(chance, pockets, 12)
        pocket = chance.choice(pockets)
        rows.append(chance.choice([
            ("let", pocket, tree), ("leap", chance.randrange(many + 1), tree), ("get", pocket, chance.choice("bc")),
            ("put", chance.choice("bc"), tree), ("take", chance.choice("lm")), ("free", chance.choice("lm")),
            ("take", "l"), ("free", "l"), ("send", chance.choice("no"), tree), ("fetch", pocket, chance.choice("no")),
            ("say", chance.choice("de"), tree), ("clock", pocket), ("lot", pocket, chance.choice([2, 6, 1000])),
            ("hear", pocket, chance.choice("de")), ("send", "n", tree), ("put", "b", tree), ("get", pocket, "b"),
        ]))
    return tuple(rows)


def random_program(chance):
    """A program of one to four hands at two boxes, locks, lanes and doors."""
    return program_of(*[random_rows(chance, chance.randrange(16)) for hand in range(chance.randrange(1, 5))])


def stand_behind(program, *steps):
    """The stand behind these steps from the first one: a hand's number, or (hand, gift)."""
    stand = first_stand(program)
    for step in steps:
        hand, gift = step if isinstance(step, tuple) else (step, None)
        stand = gone(program, stand, hand, gift)[0]
    return stand
