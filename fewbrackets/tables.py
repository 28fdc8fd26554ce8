"""Tables of signs, and what they are refused for."""

from fewbrackets.errors import MixedSides, NoTable, TwiceThere

# A tuple, not one text: the empty text and "+-" would be found in a text.
SIGNS = ("+", "-", "*", "/", "^", "<", ">", "=", "&", "|")
SIDES = ("left", "right", "none")


# Each check walks the whole table before the next one begins, so that the
# order of the refusals doesn't hang on the order of the rows.
def check_table(table):
    check_words(table)
    check_no_sign_twice(table)
    check_one_side_a_rank(table)


def check_words(table):
    for sign, rank, side in table:
        if sign not in SIGNS:
            raise NoTable(f"{sign!r} is no sign")
        if side not in SIDES:
            raise NoTable(f"{side!r} is no side")


def check_no_sign_twice(table):
    seen = {}
    for sign, rank, side in table:
        if sign in seen:
            raise TwiceThere(f"the sign {sign!r} stands in the table twice")
        seen[sign] = True


# The rank is left out of the error's words: Python refuses to write a very
# large number, and that refusal would come in the place of this one.
def check_one_side_a_rank(table):
    side_of_rank = {}
    for sign, rank, side in table:
        if side_of_rank.setdefault(rank, side) != side:
            raise MixedSides(f"the sign {sign!r} has another side than a sign of the same rank")


# Who needs the rows gets them from here alone, so that no table is used
# unchecked.
def rows_by_sign(table):
    check_table(table)
    return dict([(sign, (rank, side)) for sign, rank, side in table])
