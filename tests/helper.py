"""What the tests share: odd plain things, and programs to work with."""

import copy


def nested(wrap, inner, many):
    """inner, wrapped so many times."""
    for turn in range(many):
        inner = wrap(inner)
    return inner


def odd_things():
    """Plain things of every kind, made anew at each call."""
    return [
        None, True, False, 0, 1, -1, 999, 1000, int("9" * 40), -int("9" * 40),
        "", "a", "num", "of", "get", "Ab", "a b", "a\n", "~", "12",
        [], (), {}, [0], (0,), {"a": 1}, ["num", 1], [[], (), {}], ((),), (None,), ("num",),
        ([], []), ({}, {}), ("of", ["a"]), (["num"], 1), ({"a": 0}, 1), {"num": ("num", 1)},
        nested(lambda thing: [thing], 0, 89),
        nested(lambda thing: (thing,), "a", 89),
        nested(lambda thing: {"a": thing}, None, 89),
        nested(lambda thing: ("not", thing), ("num", 1), 88),
        nested(lambda thing: (thing, thing, thing, thing, thing), (), 5),
    ]


def stays(test, ask, *things):
    """ask(*things), and a look whether the things are as they were."""
    before = copy.deepcopy(things)
    shape = repr(things)
    try:
        return ask(*things)
    finally:
        test.assertEqual(things, before)
        test.assertEqual(repr(things), shape)


def kinds(thing):
    """A thing with the kind of each of its parts, so that 1 and True differ."""
    if isinstance(thing, (list, tuple)):
        return (type(thing), [kinds(part) for part in thing])
    return (type(thing), thing)


def same_kind(test, told, asked):
    test.assertEqual(kinds(told), kinds(asked))


def program_of(*rows, boxes=(("b", 5), ("c", 0)), locks=("l", "m"), lanes=("n", "o"), doors=("d", "e")):
    """A program with a hand for each tuple of rows: ha, hb, hc, hd."""
    names = ("ha", "hb", "hc", "hd", "he")
    return (boxes, locks, lanes, doors, tuple(zip(names, rows)))


N0 = ("num", 0)
N1 = ("num", 1)
X = ("of", "x")
Y = ("of", "y")

EVERY_ROW = (
    ("let", "x", ("add", X, N1)), ("leap", 0, N0), ("get", "x", "b"), ("put", "b", X), ("take", "l"), ("free", "l"),
    ("send", "n", X), ("fetch", "x", "n"), ("say", "d", X), ("clock", "x"), ("lot", "x", 6), ("hear", "x", "d"),
)
