import copy
import itertools
import unittest

from fewbrackets.errors import BracketError, MixedSides, NoTable, TwiceThere
from fewbrackets.tables import check_table

SIGNS = ["+", "-", "*", "/", "^", "<", ">", "=", "&", "|"]
SIDES = ["left", "right", "none"]
# Too many figures for Python to write them by itself.
VAST = 10 ** 6000


def refusal_of(table):
    """The class of the error that check_table refuses with, or None."""
    try:
        answer = check_table(table)
    except BracketError as error:
        return type(error)
    if answer is not None:
        raise AssertionError(f"check_table answered {answer!r}")
    return None


def refusal_by_the_document(table):
    """Point 3 once more, told by pairs of rows."""
    pairs = list(itertools.combinations(table, 2))
    if not all(sign in SIGNS and side in SIDES for sign, _, side in table):
        return NoTable
    if any(one[0] == other[0] for one, other in pairs):
        return TwiceThere
    if any(one[1] == other[1] and one[2] != other[2] for one, other in pairs):
        return MixedSides
    return None


class TableCase(unittest.TestCase):
    def assert_fine(self, table):
        with self.subTest(rows=len(table), signs=[row[0] for row in table]):
            self.assertIsNone(refusal_of(table))

    def assert_refused(self, refusal, table):
        """Whichever row stands first."""
        for rows in itertools.permutations(table):
            with self.subTest(rows=[(row[0], row[2]) for row in rows]):
                self.assertIs(refusal_of(list(rows)), refusal)


class FineTables(TableCase):
    def test_the_table_without_signs(self):
        self.assert_fine([])

    def test_each_sign_with_each_side(self):
        for sign in SIGNS:
            for side in SIDES:
                self.assert_fine([(sign, 1, side)])

    def test_all_ten_signs_with_ranks_of_their_own(self):
        for shift in range(3):
            self.assert_fine([(sign, rank, SIDES[(rank + shift) % 3]) for rank, sign in enumerate(SIGNS)])

    def test_an_ordinary_table(self):
        self.assert_fine([
            ("=", 0, "none"), ("<", 0, "none"),
            ("+", 1, "left"), ("-", 1, "left"),
            ("*", 2, "left"), ("/", 2, "left"),
            ("^", 3, "right"),
        ])

    def test_all_ten_signs_of_one_rank_and_one_side(self):
        for side in SIDES:
            self.assert_fine([(sign, 4, side) for sign in SIGNS])

    def test_one_side_at_several_ranks(self):
        for side in SIDES:
            self.assert_fine([("+", 1, side), ("-", 2, side), ("*", 1, side)])

    def test_ranks_of_any_sign_and_size(self):
        for rank in (0, -1, 1, -7, 2 ** 63, -2 ** 64, VAST, -VAST):
            for side in SIDES:
                self.assert_fine([("+", rank, side), ("|", rank, side)])

    def test_ranks_that_lie_close_together_are_not_the_same(self):
        for rank in (0, -1, 2 ** 53, 2 ** 61 - 1, 2 ** 64, VAST, -VAST):
            self.assert_fine([("+", rank, "left"), ("-", rank + 1, "right"), ("*", rank - 1, "none")])

    def test_a_rank_and_its_opposite_are_not_the_same(self):
        for rank in (1, 2, 2 ** 61 - 1, VAST):
            self.assert_fine([("+", rank, "left"), ("-", -rank, "right")])

    def test_nought_and_a_great_prime_are_not_the_same_rank(self):
        self.assert_fine([("+", 0, "left"), ("-", 2 ** 61 - 1, "right")])

    def test_the_argument_bears_its_name(self):
        self.assertIsNone(check_table(table=[("+", 1, "left")]))


class RefusedWithNoTable(TableCase):
    def test_no_sign_of_the_ten(self):
        others = ["", " ", "+ ", " +", "+-", "++", "-*", "<=", "a", "z", "A", "0", "7", "(", ")", "()",
                  "!", "%", ",", "~", "\\", "\n", "plus", "left", "\u2212", "\uff0b", "\ud800"]
        for sign in others:
            for side in SIDES:
                self.assert_refused(NoTable, [(sign, 1, side)])
                self.assert_refused(NoTable, [(sign, 1, side), ("+", 2, "left")])

    def test_no_other_single_ascii_sign(self):
        for code in range(128):
            sign = chr(code)
            with self.subTest(sign=sign):
                self.assertIs(refusal_of([(sign, 1, "left")]), None if sign in SIGNS else NoTable)

    def test_no_side_of_the_three(self):
        for side in ["", " ", "Left", "LEFT", "left ", " right", "lef", "leftright", "l", "None", "both", "+"]:
            for sign in SIGNS:
                self.assert_refused(NoTable, [(sign, 1, side)])
            self.assert_refused(NoTable, [("+", 1, side), ("-", 2, "left")])

    def test_both_sign_and_side(self):
        self.assert_refused(NoTable, [("x", 1, "up")])

    def test_with_a_vast_rank(self):
        self.assert_refused(NoTable, [("x", VAST, "left")])
        self.assert_refused(NoTable, [("+", -VAST, "up")])

    def test_in_any_row_of_a_long_table(self):
        for place in range(len(SIGNS)):
            for bad_row in (("x", 1, "left"), (SIGNS[place], 1, "up")):
                table = [(sign, 1, "left") for sign in SIGNS]
                table[place] = bad_row
                with self.subTest(place=place, bad_row=bad_row):
                    self.assertIs(refusal_of(table), NoTable)


class RefusedWithTwiceThere(TableCase):
    def test_the_very_same_row_again(self):
        for sign in SIGNS:
            row = (sign, 1, "left")
            self.assert_refused(TwiceThere, [row, row])

    def test_with_another_rank(self):
        self.assert_refused(TwiceThere, [("+", 1, "left"), ("+", 2, "left")])

    def test_with_another_rank_and_side(self):
        self.assert_refused(TwiceThere, [("+", 1, "left"), ("+", 2, "right")])

    def test_with_other_rows_between(self):
        self.assert_refused(TwiceThere, [("+", 1, "left"), ("-", 1, "left"), ("*", 2, "left"), ("+", 3, "none")])

    def test_three_times(self):
        self.assert_refused(TwiceThere, [("^", 1, "right")] * 3)

    def test_with_a_vast_rank(self):
        self.assert_refused(TwiceThere, [("+", VAST, "left"), ("+", VAST, "left")])


class RefusedWithMixedSides(TableCase):
    def test_each_two_sides(self):
        for one, other in itertools.combinations(SIDES, 2):
            self.assert_refused(MixedSides, [("+", 1, one), ("-", 1, other)])

    def test_all_three_sides(self):
        self.assert_refused(MixedSides, [("+", 1, "left"), ("-", 1, "right"), ("*", 1, "none")])

    def test_with_other_rows_between(self):
        self.assert_refused(MixedSides, [("+", 1, "left"), ("*", 2, "right"), ("/", 2, "right"), ("-", 1, "none")])

    def test_ranks_of_any_sign_and_size(self):
        for rank in (0, -1, -7, 2 ** 63, -2 ** 64, VAST, -VAST):
            self.assert_refused(MixedSides, [("+", rank, "left"), ("-", rank, "right")])

    def test_vast_ranks_that_are_reckoned_apart(self):
        self.assert_refused(MixedSides, [("+", 10 ** 6000, "left"), ("-", 10 ** 3000 * 10 ** 3000, "none")])


class OrderOfTheRefusals(TableCase):
    def test_no_table_ahead_of_twice_there(self):
        self.assert_refused(NoTable, [("+", 1, "left"), ("+", 1, "left"), ("x", 2, "left")])
        self.assert_refused(NoTable, [("+", 1, "left"), ("+", 1, "left"), ("-", 2, "up")])
        self.assert_refused(NoTable, [("x", 1, "left"), ("x", 1, "left")])
        self.assert_refused(NoTable, [("+", 1, "left"), ("+", 1, "up")])

    def test_no_table_ahead_of_mixed_sides(self):
        self.assert_refused(NoTable, [("+", 1, "left"), ("-", 1, "right"), ("x", 2, "left")])
        self.assert_refused(NoTable, [("+", 1, "left"), ("-", 1, "right"), ("*", 2, "up")])
        self.assert_refused(NoTable, [("+", 1, "left"), ("x", 1, "right")])
        self.assert_refused(NoTable, [("+", 1, "left"), ("-", 1, "up")])

    def test_twice_there_ahead_of_mixed_sides(self):
        self.assert_refused(TwiceThere, [("+", 1, "left"), ("-", 1, "right"), ("*", 2, "left"), ("*", 2, "left")])
        self.assert_refused(TwiceThere, [("+", 1, "left"), ("+", 1, "right")])
        self.assert_refused(TwiceThere, [("+", 1, "left"), ("-", 1, "right"), ("+", 2, "left")])

    def test_all_three_at_once(self):
        for bad_row in (("x", 3, "left"), ("*", 3, "up")):
            self.assert_refused(NoTable, [("+", 1, "left"), ("+", 1, "left"), ("-", 1, "right"), bad_row])
        self.assert_refused(NoTable, [("x", 1, "left"), ("x", 1, "right")])

    def test_every_short_table(self):
        rows = list(itertools.product(["+", "|", "x"], [-1, 0], ["left", "none", "up"]))
        for length in range(4):
            for table in itertools.product(rows, repeat=length):
                if refusal_of(list(table)) is not refusal_by_the_document(table):
                    self.fail(f"{table!r}: {refusal_of(list(table))}")

    def test_every_table_of_known_words_with_three_rows(self):
        rows = list(itertools.product(["+", "-", "^"], [0, 5], SIDES))
        for table in itertools.product(rows, repeat=3):
            if refusal_of(list(table)) is not refusal_by_the_document(table):
                self.fail(f"{table!r}: {refusal_of(list(table))}")


class NothingIsChanged(unittest.TestCase):
    tables = [
        [],
        [("+", 2, "left"), ("-", 2, "left"), ("^", -3, "right"), ("=", 0, "none")],
        [("+", 1, "left"), ("x", 1, "left")],
        [("+", 1, "left"), ("-", 1, "up")],
        [("-", 1, "left"), ("+", 1, "left"), ("-", 1, "left")],
        [("-", 1, "left"), ("+", 1, "right")],
    ]

    def test_the_table_stays_as_it_was(self):
        for table in self.tables:
            before = copy.deepcopy(table)
            rows = list(table)
            with self.subTest(table=before):
                refusal_of(table)
                self.assertEqual(table, before)
                self.assertTrue(all(row is old for row, old in zip(table, rows)))

    def test_nothing_is_kept_from_call_to_call(self):
        first = [refusal_of(table) for table in self.tables]
        self.assertEqual(first, [None, None, NoTable, NoTable, TwiceThere, MixedSides])
        for order in itertools.permutations(range(len(self.tables))):
            for place in order:
                self.assertIs(refusal_of(self.tables[place]), first[place])


if __name__ == "__main__":
    unittest.main()
