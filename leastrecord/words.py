"""The words of the language, what stands behind them, and the names."""

# In the order in which a program's lines tell them.
SORTS = ("box", "lock", "lane", "door", "hand")

# Each row's word, and what stands behind it: the sort of a thing of the
# program, a hand's pocket, a sum, a leap's row or a lot's n.
ROW_PARTS = {
    "let": ("pocket", "sum"),
    "leap": ("target", "sum"),
    "get": ("pocket", "box"),
    "put": ("box", "sum"),
    "take": ("lock",),
    "free": ("lock",),
    "send": ("lane", "sum"),
    "fetch": ("pocket", "lane"),
    "say": ("door", "sum"),
    "clock": ("pocket",),
    "lot": ("pocket", "chances"),
    "hear": ("pocket", "door"),
}

# Each sum's word that stands ahead of parts, and how many parts there are.
SUM_PARTS = {"add": 2, "sub": 2, "mul": 2, "less": 2, "same": 2, "not": 1}

LETTERS = "abcdefghijklmnopqrstuvwxyz"
LONGEST_NAME = 8


def is_word(text):
    return text in SORTS or text in ROW_PARTS or text in SUM_PARTS


def is_name(thing):
    if not isinstance(thing, str) or not 1 <= len(thing) <= LONGEST_NAME:
        return False
    return all([sign in LETTERS for sign in thing]) and not is_word(thing)
