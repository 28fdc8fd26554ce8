"""Reckonings written as lines."""

from fewbrackets.tables import rows_by_sign


def shown(table, tree):
    rows = rows_by_sign(table)
    return line_of(tree, lambda over, sign, place: needs_brackets(rows[over], rows[sign], place))


# No leaf holds a bracket, so each "(" of the line is that of a pair.
def pairs_in(table, tree):
    return shown(table, tree).count("(")


def all_brackets(tree):
    return line_of(tree, lambda over, sign, place: True)


# `place` is "left" or "right", so that it can be held against the side: the
# side "none" is neither of them, and asks for brackets in both places.
def needs_brackets(row_over, row, place):
    rank_over, side = row_over
    rank = row[0]
    return rank < rank_over or (rank == rank_over and place != side)


# A list of what is still to be written, not a recursion, so that no reckoning
# lies too deep. Brackets and signs stand in it as texts among the parts: they
# are written as they are, just as names.
def line_of(tree, wants_brackets):
    written = []
    to_write = [tree]
    while to_write:
        piece = to_write.pop()
        if isinstance(piece, tuple):
            # The last one is taken first.
            to_write.extend(list(reversed(pieces_of(piece, wants_brackets))))
        else:
            written.append(str(piece))
    return "".join(written)


def pieces_of(tree, wants_brackets):
    sign, left, right = tree
    left_pieces = part_pieces(left, sign, "left", wants_brackets)
    right_pieces = part_pieces(right, sign, "right", wants_brackets)
    return left_pieces + [f" {sign} "] + right_pieces


def part_pieces(part, over, place, wants_brackets):
    if isinstance(part, tuple) and wants_brackets(over, part[0], place):
        return ["(", part, ")"]
    return [part]
