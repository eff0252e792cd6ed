"""What the tests share: odd plain things, and programs to work with."""

import copy

from leastrecord.errors import LeastError, NoFit, NoRun
from leastrecord.seats import touch_of
from leastrecord.stands import can_go, first_stand
from leastrecord.steps import gone


def nested(wrap, inner, many):
    """inner, wrapped so many times."""
    for turn in range(many):
        inner = wrap(inner)
    return inner


def odd_things():
    """Plain things of every kind, made anew at each call."""
    return [
        None, True, False, 0, 1, -1, 999, 1000, int("9" * 40), -int("9" * 40),
        "", "a", "num", "of", "get", "Ab", "a b", "a\n", "~", "12",
        [], (), {}, [0], (0,), {"a": 1}, ["num", 1], [[], (), {}], ((),), (None,), ("num",),
        ([], []), ({}, {}), ("of", ["a"]), (["num"], 1), ({"a": 0}, 1), {"num": ("num", 1)},
        nested(lambda thing: [thing], 0, 89),
        nested(lambda thing: (thing,), "a", 89),
        nested(lambda thing: {"a": thing}, None, 89),
        nested(lambda thing: ("not", thing), ("num", 1), 88),
        nested(lambda thing: (thing, thing, thing, thing, thing), (), 5),
    ]


def stays(test, ask, *things):
    """ask(*things), and a look whether the things are as they were."""
    before = copy.deepcopy(things)
    shape = repr(things)
    try:
        return ask(*things)
    finally:
        test.assertEqual(things, before)
        test.assertEqual(repr(things), shape)


def kinds(thing):
    """A thing with the kind of each of its parts, so that 1 and True differ."""
    if isinstance(thing, (list, tuple)):
        return (type(thing), [kinds(part) for part in thing])
    return (type(thing), thing)


def same_kind(test, told, asked):
    test.assertEqual(kinds(told), kinds(asked))


def program_of(*rows, boxes=(("b", 5), ("c", 0)), locks=("l", "m"), lanes=("n", "o"), doors=("d", "e")):
    """A program with a hand for each tuple of rows: ha, hb, hc, hd."""
    names = ("ha", "hb", "hc", "hd", "he")
    return (boxes, locks, lanes, doors, tuple(zip(names, rows)))


N0 = ("num", 0)
N1 = ("num", 1)
X = ("of", "x")
Y = ("of", "y")

GET = ("get", "x", "b")
PUT = ("put", "b", N1)
TAKE = ("take", "l")
FREE = ("free", "l")
SEND = ("send", "n", N1)
FETCH = ("fetch", "x", "n")
SAY = ("say", "d", N1)
CLOCK = ("clock", "x")
LOOP = ("leap", 0, N1)

EVERY_ROW = (
    ("let", "x", ("add", X, N1)), ("leap", 0, N0), ("get", "x", "b"), ("put", "b", X), ("take", "l"), ("free", "l"),
    ("send", "n", X), ("fetch", "x", "n"), ("say", "d", X), ("clock", "x"), ("lot", "x", 6), ("hear", "x", "d"),
)


def random_sum(chance, pockets, most, deep=1):
    """A sum of at most so many sums, within bounds."""
    if most < 3 or deep == 5 or chance.random() < 0.3:
        return chance.choice([("num", chance.randrange(4)), ("num", chance.randrange(1000)), ("of", chance.choice(pockets))])
    word = chance.choice(["add", "sub", "mul", "less", "same", "not"])
    if word == "not":
        return (word, random_sum(chance, pockets, most - 1, deep + 1))
    half = (most - 1) // 2
    return (word, random_sum(chance, pockets, half, deep + 1), random_sum(chance, pockets, most - 1 - half, deep + 1))


def random_rows(chance, many):
    pockets = ["x", "y", "b", "ha"]
    rows = []
    for turn in range(many):
        tree = random_sum(chance, pockets, 12)
        pocket = chance.choice(pockets)
        rows.append(chance.choice([
            ("let", pocket, tree), ("leap", chance.randrange(many + 1), tree), ("get", pocket, chance.choice("bc")),
            ("put", chance.choice("bc"), tree), ("take", chance.choice("lm")), ("free", chance.choice("lm")),
            ("take", "l"), ("free", "l"), ("send", chance.choice("no"), tree), ("fetch", pocket, chance.choice("no")),
            ("say", chance.choice("de"), tree), ("clock", pocket), ("lot", pocket, chance.choice([2, 6, 1000])),
            ("hear", pocket, chance.choice("de")), ("send", "n", tree), ("put", "b", tree), ("get", pocket, "b"),
        ]))
    return tuple(rows)


def random_program(chance):
    """A program of one to four hands at two boxes, locks, lanes and doors."""
    return program_of(*[random_rows(chance, chance.randrange(16)) for hand in range(chance.randrange(1, 5))])


def stand_behind(program, *steps):
    """The stand behind these steps from the first one: a hand's number, or (hand, gift)."""
    stand = first_stand(program)
    for step in steps:
        hand, gift = step if isinstance(step, tuple) else (step, None)
        stand = gone(program, stand, hand, gift)[0]
    return stand


def random_run(chance, program, stand, most):
    """A run of at most so many steps, each hand that may go being chosen as often."""
    run = []
    for turn in range(most):
        free = can_go(program, stand)
        if not free:
            break
        hand = chance.choice(free)
        touch = touch_of(program, hand, stand[1][hand])
        gift = None
        if touch[0] in ("clock", "hear"):
            gift = chance.choice([0, 1, 2, chance.randrange(1000)])
        elif touch[0] == "lot":
            gift = chance.randrange(touch[2])
        run.append((hand, gift))
        stand = gone(program, stand, hand, gift)[0]
    return tuple(run)


def run_of(*steps):
    """The run of these steps: a hand's number, or (hand, gift)."""
    return tuple(step if isinstance(step, tuple) else (step, None) for step in steps)


def busy_rows(chance, many):
    """Rows of a hand that works with others at few things; it seldom waits for good."""
    rows = []
    while len(rows) < many:
        tree = chance.choice([N0, N1, X, Y, ("add", X, N1), ("num", 7)])
        pocket = chance.choice("xy")
        lock = chance.choice("llm")
        lane = chance.choice("nno")
        door = chance.choice("dde")
        rows.extend(chance.choice([
            [("get", pocket, "b")], [("put", "b", tree)], [("get", pocket, chance.choice("bc"))], [("put", chance.choice("bc"), tree)],
            [("take", lock), ("free", lock)], [("take", lock), ("get", pocket, "b"), ("put", "b", tree), ("free", lock)],
            [("take", lock), ("say", door, tree), ("free", lock), ("take", lock), ("free", lock), ("free", lock)],
            [("send", lane, tree)], [("send", lane, tree), ("send", "n", tree), ("fetch", pocket, "n")], [("fetch", pocket, lane)],
            [("send", lane, tree), ("fetch", pocket, lane)], [("say", door, tree)], [("say", door, tree)],
            [chance.choice([("clock", pocket), ("lot", pocket, 3), ("hear", pocket, "d")])],
            [chance.choice([("take", lock), ("leap", min(many, len(rows) + 2), X), ("let", pocket, tree)])],
        ]))
    return tuple(rows[:many])


def busy_scene(chance, most_rows=12, most_steps=60, most_hands=4):
    """A program, a stand of it (the first one, or one by the way) and a run from there."""
    hands = min(most_hands, chance.choice([1, 2, 2, 3, 3, 4, 4]))
    program = program_of(*[busy_rows(chance, chance.randrange(2, most_rows + 1)) for hand in range(hands)])
    stand = first_stand(program)
    if chance.random() < 0.6:
        stand = stand_behind(program, *random_run(chance, program, stand, chance.randrange(8)))
    return program, stand, random_run(chance, program, stand, most_steps)


def events_told(program, stand, run):
    """The touches of a run as (EVENT, LOOK), made step by step."""
    told = []
    for hand, gift in run:
        event = (hand, stand[0][hand])
        stand, look = gone(program, stand, hand, gift)
        told.append((event, look))
    return told


def needs_by_the_words(touches):
    """The needs of touches, (EVENT, LOOK), row by row as they are told."""
    pairs = set()
    for place, (b, (kind, thing, value, mark)) in enumerate(touches):
        for a, look in touches[:place]:
            if a[0] == b[0]:
                continue
            if look[0] == "put" and kind in ("get", "put") and mark == a:
                pairs.add((a, b))
            if look[0] == "get" and kind == "put" and look[1] == thing and look[3] == mark:
                pairs.add((a, b))
            if look[0] == "take" and kind == "take" and look[1] == thing:
                frees = [e for e, other in touches if e > a and e[0] == a[0] and other[:2] == ("free", thing)]
                if frees and min(frees) == mark:
                    pairs.add((a, b))
            if look[0] == kind and kind in ("send", "fetch", "say") and look[1] == thing and mark == look[3] + 1:
                pairs.add((a, b))
    return tuple(sorted(pairs))


def events_ahead(program, stand, touches, record):
    """Of each event the set of those ahead of it from the stand on: all sets grow together till none does."""
    looks = dict(touches)
    locks = dict(zip(program[1], stand[3]))
    lanes = dict(zip(program[2], stand[4]))
    ahead = {event: set() for event in looks}

    def first_free(hand, lock, number):
        return min(e for e, look in touches if e[0] == hand and e[1] >= number and look[:2] == ("free", lock))

    def owed(event):
        kind, thing = looks[event][:2]
        owes = {e for e in looks if e[0] == event[0] and e[1] < event[1]}
        owes |= {first for first, second in record[2] if second == event}
        if kind == "fetch":
            many = lanes[thing][1] + sum(1 for e in ahead[event] if looks[e][:2] == ("fetch", thing))
            owes |= {e for e, look in touches if look[:2] == ("send", thing) and look[3] <= many}
        if kind == "take":
            owes |= {first_free(e[0], thing, e[1]) for e in ahead[event]
                     if e[0] != event[0] and looks[e][:2] == ("take", thing)}
            if locks[thing][0] not in (None, event[0]):
                owes.add(first_free(locks[thing][0], thing, 0))
        return owes.union(*[ahead[e] for e in owes | ahead[event]])

    grown = True
    while grown:
        grown = False
        for event in looks:
            more = owed(event) - ahead[event]
            ahead[event] |= more
            grown = grown or bool(more)
    return ahead


def search(program, stand, run, record):
    """All runs that fit a record which the run keeps, tried out: (one that parts or None, the ends of the others)."""
    looks = dict(events_told(program, stand, run))
    begin = stand[0]
    ends, seen, waiting = [], {stand}, [(stand, ())]
    while waiting:
        here, made = waiting.pop()
        moves = 0
        for hand in can_go(program, here):
            event = (hand, here[0][hand])
            if event[1] >= record[0][hand]:
                continue
            if any(second == event and first[1] >= here[0][first[0]] for first, second in record[2]):
                continue
            gift = None
            if looks[event][0] in ("clock", "lot", "hear"):
                used = sum(1 for k in range(begin[hand], event[1]) if looks[(hand, k)][0] in ("clock", "lot", "hear"))
                gift = record[1][hand][used]
                if gift is None:
                    return made + ((hand, 1 if looks[event][2] == 0 else 0),), []
            moves += 1
            behind, look = gone(program, here, hand, gift)
            if look != looks[event]:
                return made + ((hand, gift),), []
            if behind not in seen:
                seen.add(behind)
                waiting.append((behind, made + ((hand, gift),)))
        if not moves:
            ends.append(here)
    return None, ends


def bent(chance, things):
    """Some of the things, in their order."""
    share = chance.choice([0.3, 0.6, 0.9])
    return tuple(thing for thing in things if chance.random() < share)


def random_record(chance, program, stand, run, whole):
    """A record that the run keeps: some edges of the whole one, some others, some gifts without a value."""
    events = [event for event, look in events_told(program, stand, run)]
    edges = set(bent(chance, whole[2])) if chance.random() < 0.8 else set(whole[2])
    for turn in range(chance.choice([0, 0, 1, 3, 8])):
        if len(events) > 1:
            first, second = sorted(chance.sample(range(len(events)), 2))
            if events[first][0] != events[second][0]:
                edges.add((events[first], events[second]))
    lost = chance.choice([0, 0, 0.5])
    gifts = tuple(tuple(None if chance.random() < lost else gift for gift in hand) for hand in whole[1])
    return (whole[0], gifts, tuple(sorted(edges)))


def refused(test, error, fields, ask, *things):
    """ask(*things) is refused with just this error, whose fields tell this, and changes nothing."""
    with test.assertRaises(LeastError) as caught:
        stays(test, ask, *things)
    test.assertIs(type(caught.exception), error)
    same_kind(test, tuple(vars(caught.exception).values()), fields)


def runs_refused():
    """Things that are no runs of a program whose hand 0 may go without a gift, with what is told of them."""
    things = [(thing, (-1, "shape")) for thing in odd_things() if type(thing) is not tuple]
    things += [([(0, None)], (-1, "shape")), (((0, None),) * 61, (-1, "shape")), ((None,) * 61, (-1, "shape"))]
    things += [(((0, None), step), (1, "shape")) for step in (None, 0, (0,), (0, None, None), [0, None], {0: None, 1: None}, "ab")]
    things += [(((0, None), (hand, None)), (1, "hand")) for hand in (9, -1, True, None, "0", [0], (0,), {})]
    things += [(((0, gift),), (0, "gift")) for gift in (0, False, "", (), [None], {})]
    return things


def refuses_what_does_not_fit(test, ask, has_to_keep):
    """ask(program, stand, run, record): NoRun goes ahead, then NoFit with the first misfit, then with the end."""
    program = program_of((("get", "x", "b"), ("leap", 0, N1)), (("clock", "x"), ("leap", 0, N1)))
    stand = first_stand(program)
    record = ((2, 2), ((), (7, 8)), (((0, 0), (1, 1)),))
    for thing, told in runs_refused():
        refused(test, NoRun, told, ask, program, stand, thing, record)
        refused(test, NoRun, told, ask, program, stand, thing, ((0, 0), ((), (5,)), ()))
    refused(test, NoRun, (3, "gift"), ask, program, stand, run_of(0, 0, 0, 1), record)
    for steps, place, word in (((0, 0, 0), 2, "upto"), ((0, (1, 7), (1, 8), (1, 9)), 3, "upto"), (((1, 8),), 0, "gift"),
                               ((0, 0, (1, 7), (1, 7), 0), 3, "gift"), (((1, 7), (1, 8), 0, 0), 1, "edge")):
        refused(test, NoFit, (place, word), ask, program, stand, run_of(*steps), record)
    refused(test, NoFit, (0, "gift"), ask, program, stand, run_of((1, 7)), ((0, 1), ((), ()), ()))
    later = stand_behind(program, 0, (1, 7))
    refused(test, NoFit, (1, "upto"), ask, program, later, run_of(0, 0), ((2, 1), ((), ()), ()))
    unkept = [((), record), ((0, (1, 7), 0), record), ((0, (1, 7), (1, 8)), record), ((0,), ((1, 0), ((), (None,)), ())),
              (((1, 7),), ((0, 1), ((), (7, 7)), ()))]
    for steps, held in unkept:
        if has_to_keep:
            refused(test, NoFit, (len(steps), "end"), ask, program, stand, run_of(*steps), held)
        else:
            stays(test, ask, program, stand, run_of(*steps), held)
    stays(test, ask, program, stand, run_of(0, 0, (1, 7), (1, 8)), record)


def with_look(stand, paper, event, look):
    """A paper whose tables have another thing at this event."""
    order, tables, claims = paper
    hand, place = event[0], event[1] - stand[0][event[0]]
    looks = tables[hand][:place] + (look,) + tables[hand][place + 1:]
    return (order, tables[:hand] + (looks,) + tables[hand + 1:], claims)


def with_claim(stand, paper, event, claim):
    """A paper whose aheads have another claim at this event."""
    order, tables, claims = paper
    return (order, tables, with_look(stand, (order, claims, ()), event, claim)[1])


def events_in(stand, order):
    """The events of an order, one behind the other."""
    return [(hand, stand[0][hand] + order[:place].count(hand)) for place, hand in enumerate(order)]


def other_order(chance, program, stand, record, paper):
    """Another order of a paper's touches in which each still finds what it tells: by turning about neighbours."""
    order = list(paper[0])
    looks = {(hand, stand[0][hand] + k): look for hand, part in enumerate(paper[1]) for k, look in enumerate(part)}
    for turn in range(chance.choice([1, 5, 40]) if len(order) > 1 else 0):
        place = chance.randrange(len(order) - 1)
        turned = order[:place] + [order[place + 1], order[place]] + order[place + 2:]
        here, is_right = stand, True
        for event in events_in(stand, turned):
            gift = looks[event][2] if looks[event][0] in ("clock", "lot", "hear") else None
            if event[0] not in can_go(program, here) or not is_right:
                is_right = False
                break
            here, look = gone(program, here, event[0], gift)
            is_right = look == looks[event]
        places = {event: at for at, event in enumerate(events_in(stand, turned))}
        if is_right and all(places[first] < places[second] for first, second in record[2]):
            order = turned
    return (tuple(order),) + paper[1:]


def bent_claims(chance, paper, most=2):
    """A paper with some other claims: numbers raised, lowered, 0, or any."""
    def other(number):
        return max(0, chance.choice([number + 1, number - 1, 0, number + 2, chance.randrange(6), 10 ** 39]))

    claims = [[list(claim) for claim in part] for part in paper[2]]
    spots = [(hand, k, one) for hand, part in enumerate(claims) for k, claim in enumerate(part) for one in range(len(claim))]
    for hand, k, one in chance.sample(spots, min(len(spots), chance.randrange(1, most + 1))):
        claims[hand][k][one] = other(claims[hand][k][one])
    return paper[:2] + (tuple(tuple(tuple(claim) for claim in part) for part in claims),)


def lessened_claims(chance, paper):
    """A paper with lesser claims: each number is kept or lowered."""
    share = chance.choice([0.1, 0.4, 0.9])
    return paper[:2] + (tuple(tuple(tuple(chance.randrange(number + 1) if chance.random() < share else number for number in claim)
                                    for claim in part) for part in paper[2]),)


def run_by(paper):
    """The run that a paper's order tells, with the values of clock, lot, hear as gifts."""
    looks = [list(part) for part in paper[1]]
    steps = []
    for hand in paper[0]:
        look = looks[hand].pop(0)
        steps.append((hand, look[2] if look[0] in ("clock", "lot", "hear") else None))
    return tuple(steps)


def bent_lines(chance, lines, more, words):
    """Lines with up to two changes: one of these or of more put in, one left out, words of one put in or left out."""
    lines = list(lines)
    for change in range(chance.randrange(3)):
        row = chance.randrange(len(lines) + 1)
        how = chance.randrange(4)
        if how == 0:
            lines.insert(row, chance.choice(lines + more))
        elif how == 1:
            lines = lines[:row] + lines[row + 1:]
        elif row < len(lines):
            parts = lines[row].split(" ")
            place = chance.randrange(len(parts) + 1)
            parts[place:place + chance.randrange(2)] = chance.sample(words, chance.randrange(2))
            lines[row] = " ".join(parts)
    return lines


def bent_at_any_place(chance, thing, others):
    """A copy of a tuple of whatever plain things in which some part is another one: near to it, None, or one of others."""
    if type(thing) is tuple and thing and chance.random() < 0.9:
        place = chance.randrange(len(thing))
        return thing[:place] + (bent_at_any_place(chance, thing[place], others),) + thing[place + 1:]
    near = [None]
    if type(thing) is int:
        near += [thing + 1, thing - 1, bool(thing)]
    elif type(thing) is tuple:
        near += [list(thing), thing + (0,)]
    return chance.choice(near if chance.random() < 0.7 else others)


def touches_by_order(stand, paper):
    """The touches of a paper as (EVENT, LOOK), by its order."""
    return [(event, paper[1][event[0]][event[1] - stand[0][event[0]]]) for event in events_in(stand, paper[0])]


def claim_of(stand, paper, event):
    """What a paper claims of an event."""
    return paper[2][event[0]][event[1] - stand[0][event[0]]]


def marks_by_the_words(program, stand, thing):
    """The events that are faults of marks, each looked at by itself."""
    touches = touches_by_order(stand, thing)
    boxes = dict(zip([name for name, value in program[0]], stand[2]))
    locks, lanes, doors = (dict(zip(program[place], stand[place + 2])) for place in (1, 2, 3))

    def is_right(place):
        event, (kind, name, value, mark) = touches[place]
        ahead = touches[:place]

        def those(*asked):
            return [(e, look) for e, look in ahead if look[0] in asked and look[1] == name]

        if kind in ("get", "put"):
            found = boxes[name]
            for e, look in those("put"):
                found = (look[2], e)
            return kinds(mark) == kinds(found[1]) and (kind == "put" or value == found[0])
        if kind == "take":
            found = locks[name][1]
            for e, look in those("free"):
                found = e
            last = those("take", "free")
            free = last[-1][1][0] == "free" if last else locks[name][0] is None
            return free and kinds(mark) == kinds(found)
        if kind in ("send", "fetch"):
            sent, fetched, letters = lanes[name]
            number = len(those(kind)) + (sent if kind == "send" else fetched)
            if kind == "send" or kinds(mark) != kinds(number):
                return kinds(mark) == kinds(number)
            if number < sent:
                return letters[number - fetched] == value
            sends = those("send")
            return number - sent < len(sends) and sends[number - sent][1][2] == value
        if kind == "say":
            return kinds(mark) == kinds(doors[name] + len(those("say")))
        return mark is None

    return [touches[place][0] for place in range(len(touches)) if not is_right(place)]


def given_by_the_words(program, stand, record, paper, event):
    """What is given to a touch, the rules being gone over till none asks for more."""
    touches = touches_by_order(stand, paper)
    looks = dict(touches)
    events = [e for e, look in touches]
    ahead = events[:events.index(event)]
    hands = range(len(stand[0]))
    most = [stand[0][hand] + len([e for e in ahead if e[0] == hand]) for hand in hands]
    numbers = list(stand[0])
    kind, thing = looks[event][:2]

    def is_in(e):
        return e[1] < numbers[e[0]]

    def asked_for():
        """Pairs (hand, number): the hand's number is no less than that."""
        asked = [(event[0], event[1])]
        owed = [first for first, second in record[2] if second == event]
        if kind == "fetch":
            fetched = stand[4][program[2].index(thing)][1]
            fetched += len([e for e in events if is_in(e) and looks[e][:2] == ("fetch", thing)])
            owed += [e for e in events if looks[e][:2] == ("send", thing) and looks[e][3] <= fetched]
        if kind == "take":
            begins = [e for e in events if is_in(e) and e[0] != event[0] and looks[e][:2] == ("take", thing)]
            holder = stand[3][program[1].index(thing)][0]
            if holder is not None and holder != event[0]:
                begins.append((holder, stand[0][holder]))
            for begin in begins:
                owed += [e for e in events if e[0] == begin[0] and e[1] >= begin[1] and looks[e][:2] == ("free", thing)][:1]
        asked += [(e[0], e[1] + 1) for e in owed]
        for e in events:
            if is_in(e):
                asked += list(enumerate(paper[2][e[0]][e[1] - stand[0][e[0]]]))
        return asked

    grown = True
    while grown:
        grown = False
        for hand, number in asked_for():
            if numbers[hand] < min(number, most[hand]):
                numbers[hand] = min(number, most[hand])
                grown = True
    return tuple(numbers)
