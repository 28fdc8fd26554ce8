"""Tables, reckonings and lines for the tests, drawn the same in each run."""

import random
import string

from fewbrackets.errors import MixedSides, NoTable, TwiceThere

SIGNS = ["+", "-", "*", "/", "^", "<", ">", "=", "&", "|"]
SIDES = ["left", "right", "none"]
# Too many figures for Python to write them by itself.
VAST = 10 ** 6000

ORDINARY = [
    ("&", -2, "right"), ("|", -2, "right"),
    ("=", 0, "none"), ("<", 0, "none"),
    ("+", 1, "left"), ("-", 1, "left"),
    ("*", 2, "left"), ("/", 2, "left"),
    ("^", 3, "right"),
]

# Each with the refusal that point 3 asks for.
REFUSED_TABLES = [
    (NoTable, [("x", 1, "left")]),
    (NoTable, [("", 1, "left")]),
    (NoTable, [("+-", 1, "left"), ("+", 2, "left")]),
    (NoTable, [("(", 1, "left")]),
    (NoTable, [("+", 1, "up")]),
    (NoTable, [("+", 1, "left"), ("+", 1, "left"), ("-", 1, "Left")]),
    (NoTable, [("+", 1, "left"), ("-", 1, "right"), ("x", 2, "left")]),
    (TwiceThere, [("+", 1, "left"), ("+", 1, "left")]),
    (TwiceThere, [("+", 1, "left"), ("-", 2, "left"), ("+", 3, "right")]),
    (TwiceThere, [("+", 1, "left"), ("+", 1, "right")]),
    (MixedSides, [("+", 1, "left"), ("-", 1, "right")]),
    (MixedSides, [("+", 0, "left"), ("*", 1, "left"), ("-", 0, "none")]),
    (MixedSides, [("+", VAST, "right"), ("-", VAST, "none")]),
]


def drawn_table(source, least_signs=1):
    """A table of any number of signs, whose ranks are often the same."""
    signs = source.sample(SIGNS, source.randint(least_signs, len(SIGNS)))
    near = source.choice([[0, 1], [-1, 0, 1, 2], list(range(-5, 6)), [-VAST, 10 ** 30, 10 ** 30 + 1, VAST]])
    side_of_rank = {rank: source.choice(SIDES) for rank in near}
    ranks = [source.choice(near) for _ in signs]
    return [(sign, rank, side_of_rank[rank]) for sign, rank in zip(signs, ranks)]


def drawn_leaf(source):
    kind = source.randrange(6)
    if kind == 0:
        return 0
    if kind == 1:
        return source.randrange(10 ** source.choice([1, 2, 99, 100, 130]))
    if kind == 2:
        return "".join(source.choices(string.ascii_lowercase, k=source.randint(2, 12)))
    return source.choice("abcxyz")


def drawn_tree(source, table, count):
    """A reckoning with so many signs, of any shape."""
    if count == 0:
        return drawn_leaf(source)
    ahead = source.choice([0, count - 1, source.randrange(count), (count - 1) // 2])
    sign = source.choice(table)[0]
    return (sign, drawn_tree(source, table, ahead), drawn_tree(source, table, count - 1 - ahead))


def drawn_cases(seed, number, most_signs):
    source = random.Random(seed)
    for _ in range(number):
        table = drawn_table(source)
        yield table, drawn_tree(source, table, source.randint(0, most_signs))


def signs_in(tree):
    if isinstance(tree, tuple):
        return 1 + signs_in(tree[1]) + signs_in(tree[2])
    return 0


def pairs_of_brackets(line):
    """The places of each "(" and of the ")" that belongs to it."""
    pairs = []
    begun = []
    for place, sign in enumerate(line):
        if sign == "(":
            begun.append(place)
        if sign == ")":
            pairs.append((begun.pop(), place))
    return pairs


def every_tree(signs, leaves, count):
    """Every reckoning with so many of the signs, over the leaves."""
    if count == 0:
        return list(leaves)
    return [
        (sign, left, right)
        for ahead in range(count)
        for sign in signs
        for left in every_tree(signs, leaves, ahead)
        for right in every_tree(signs, leaves, count - 1 - ahead)
    ]
