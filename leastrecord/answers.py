"""What a desk tells, as texts."""

from leastrecord.programs import names_of
from leastrecord.recordtexts import shown_number


def shown_look(look):
    return " ".join([look[0], "-" if look[1] == "" else look[1], shown_number(look[2])])


def shown_run(program, run):
    return shown_parts(" ", [shown_step(program, step) for step in run])


def shown_parts(between, texts):
    """The texts with this between each two; what has nothing to tell is told as a dash."""
    return "-" if texts == [] else between.join(texts)


def shown_step(program, step):
    name = hand_name(program, step[0])
    return name if step[1] is None else name + ":" + str(step[1])


def hand_name(program, hand):
    return names_of(program, "hand")[hand]


def shown_hands(program, hands):
    return shown_parts(" ", [hand_name(program, hand) for hand in hands])


def shown_state(program, sort, state):
    """What a stand has of one box, lock, lane or door."""
    if sort == "box":
        return str(state[0])
    if sort == "lock":
        return "-" if state[0] is None else hand_name(program, state[0])
    if sort == "lane":
        return shown_parts(",", [str(letter) for letter in state[2]])
    return str(state)


def shown_waiting(program, waiting):
    return shown_parts("; ", [shown_wait(program, wait) for wait in waiting])


def shown_wait(program, wait):
    return " ".join([hand_name(program, wait[0]), wait[1], shown_what(program, wait[2])])


def shown_what(program, what):
    """A lock's or lane's name, an event, or None."""
    if what is None:
        return "-"
    if isinstance(what, tuple):
        return hand_name(program, what[0]) + "." + str(what[1])
    return what
