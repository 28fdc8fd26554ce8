import copy
import itertools
import unittest

from drawn import ORDINARY, REFUSED_TABLES, SIDES, SIGNS, VAST, drawn_cases, signs_in

from fewbrackets.errors import BracketError
from fewbrackets.writing import all_brackets, pairs_in, shown

LEAVES = [
    (0, "0"), (1, "1"), (9, "9"), (10, "10"), (100, "100"), (1000000, "1000000"),
    (10 ** 99, "1" + "0" * 99), (10 ** 100 - 1, "9" * 100), (10 ** 100, "1" + "0" * 100),
    (int("1234567890" * 13), "1234567890" * 13), (10 ** 999, "1" + "0" * 999),
    ("a", "a"), ("z", "z"), ("ab", "ab"), ("left", "left"), ("none", "none"),
    ("abcdefghijklmnopqrstuvwxyz", "abcdefghijklmnopqrstuvwxyz"), ("q" * 300, "q" * 300),
]


def written_by_the_document(table, tree):
    """Point 5 once more, word by word."""
    if not isinstance(tree, tuple):
        return str(tree)
    rank = {row[0]: row[1] for row in table}
    side = {row[0]: row[2] for row in table}

    def part_of(part, is_left):
        line = written_by_the_document(table, part)
        if not isinstance(part, tuple):
            return line
        if rank[part[0]] < rank[tree[0]]:
            return "(" + line + ")"
        if rank[part[0]] == rank[tree[0]]:
            if is_left and side[tree[0]] != "left":
                return "(" + line + ")"
            if not is_left and side[tree[0]] != "right":
                return "(" + line + ")"
        return line

    return part_of(tree[1], True) + " " + tree[0] + " " + part_of(tree[2], False)


def all_brackets_by_the_document(tree):
    if not isinstance(tree, tuple):
        return str(tree)
    parts = [all_brackets_by_the_document(part) for part in tree[1:]]
    left, right = ["(" + line + ")" if isinstance(part, tuple) else line for part, line in zip(tree[1:], parts)]
    return left + " " + tree[0] + " " + right


class WritingCase(unittest.TestCase):
    def assert_shown(self, table, tree, line):
        """Whichever row of the table stands first."""
        for rows in itertools.islice(itertools.permutations(table), 24):
            with self.subTest(tree=tree, signs=[row[0] for row in rows]):
                self.assertEqual(shown(list(rows), tree), line)
                self.assertEqual(pairs_in(list(rows), tree), line.count("("))


class Leaves(WritingCase):
    def test_a_leaf_is_written_as_it_is(self):
        for leaf, line in LEAVES:
            self.assert_shown([("+", 1, "left")], leaf, line)
            self.assert_shown([], leaf, line)
            self.assertEqual(all_brackets(leaf), line)

    def test_a_leaf_never_stands_in_brackets(self):
        for side in SIDES:
            for leaf, line in LEAVES:
                self.assert_shown([("+", 1, side)], ("+", leaf, leaf), line + " + " + line)
                self.assertEqual(all_brackets(("+", leaf, leaf)), line + " + " + line)


class OneSign(WritingCase):
    def test_each_sign_with_each_side(self):
        for sign in SIGNS:
            for side in SIDES:
                self.assert_shown([(sign, 1, side)], (sign, "a", 2), "a " + sign + " 2")
                self.assertEqual(all_brackets((sign, "a", 2)), "a " + sign + " 2")

    def test_left_and_right_keep_their_places(self):
        self.assert_shown(ORDINARY[:3], ("=", "b", "a"), "b = a")


class RanksThatDiffer(WritingCase):
    ranks = [(0, 1), (-1, 0), (-2, -1), (-5, 7), (1, 10 ** 30), (10 ** 30, 10 ** 30 + 1),
             (-10 ** 30 - 1, -10 ** 30), (2 ** 53, 2 ** 53 + 1), (VAST, VAST + 1), (-VAST, VAST), (9, 10)]

    def test_a_part_of_lesser_rank_stands_in_brackets(self):
        for (less, more), one, other in itertools.product(self.ranks, SIDES, SIDES):
            table = [("+", less, one), ("*", more, other)]
            self.assert_shown(table, ("*", ("+", "a", "b"), "c"), "(a + b) * c")
            self.assert_shown(table, ("*", "a", ("+", "b", "c")), "a * (b + c)")
            self.assert_shown(table, ("*", ("+", 1, 2), ("+", 3, 4)), "(1 + 2) * (3 + 4)")

    def test_a_part_of_greater_rank_does_not(self):
        for (less, more), one, other in itertools.product(self.ranks, SIDES, SIDES):
            table = [("+", less, one), ("*", more, other)]
            self.assert_shown(table, ("+", ("*", "a", "b"), "c"), "a * b + c")
            self.assert_shown(table, ("+", "a", ("*", "b", "c")), "a + b * c")
            self.assert_shown(table, ("+", ("*", 1, 2), ("*", 3, 4)), "1 * 2 + 3 * 4")


class TheSameRank(WritingCase):
    ranks = [0, 1, -1, 7, -10 ** 30, 10 ** 30, VAST, -VAST]
    # The left part and the right part of the same rank.
    lines = {
        "left": ("a {1} b {0} c", "a {0} (b {1} c)", "a {1} b {0} (c {1} d)"),
        "right": ("(a {1} b) {0} c", "a {0} b {1} c", "(a {1} b) {0} c {1} d"),
        "none": ("(a {1} b) {0} c", "a {0} (b {1} c)", "(a {1} b) {0} (c {1} d)"),
    }

    def assert_lines(self, table, over, under, lines):
        trees = [(over, (under, "a", "b"), "c"), (over, "a", (under, "b", "c")),
                 (over, (under, "a", "b"), (under, "c", "d"))]
        for tree, line in zip(trees, lines):
            self.assert_shown(table, tree, line.format(over, under))

    def test_one_sign(self):
        for side, rank, sign in itertools.product(SIDES, self.ranks, SIGNS):
            self.assert_lines([(sign, rank, side)], sign, sign, self.lines[side])

    def test_two_signs(self):
        for side, rank in itertools.product(SIDES, self.ranks):
            table = [("-", rank, side), ("+", rank, side), ("*", rank + 1, "right"), ("=", rank - 1, "left")]
            self.assert_lines(table, "-", "+", self.lines[side])
            self.assert_lines(table, "+", "-", self.lines[side])

    def test_ranks_that_are_reckoned_apart(self):
        for side in SIDES:
            table = [("-", 10 ** 6000, side), ("+", 10 ** 3000 * 10 ** 3000, side)]
            self.assert_lines(table, "-", "+", self.lines[side])

    def test_a_chain_on_its_own_side_has_no_brackets(self):
        left, right = "a", "a"
        for _ in range(120):
            left, right = ("-", left, "a"), ("^", "a", right)
        self.assert_shown([("-", 1, "left"), ("^", 2, "right")], left, " - ".join(["a"] * 121))
        self.assert_shown([("-", 1, "left"), ("^", 2, "right")], right, " ^ ".join(["a"] * 121))

    def test_a_chain_on_the_other_side_has_all(self):
        left, right = "a", "a"
        for _ in range(120):
            left, right = ("^", left, "a"), ("-", "a", right)
        table = [("-", 1, "left"), ("^", 2, "right")]
        self.assert_shown(table, left, "(" * 119 + "a ^ a" + ") ^ a" * 119)
        self.assert_shown(table, right, "a - (" * 119 + "a - a" + ")" * 119)
        self.assertEqual(pairs_in(table, left), 119)
        self.assertEqual(pairs_in(table, right), 119)


class WholeReckonings(WritingCase):
    def test_an_ordinary_table(self):
        table = ORDINARY
        cases = [
            (("-", ("-", "a", "b"), "c"), "a - b - c", 0),
            (("-", "a", ("-", "b", "c")), "a - (b - c)", 1),
            (("*", ("+", "a", 1), ("^", ("-", "b", 2), ("^", "c", "d"))), "(a + 1) * (b - 2) ^ c ^ d", 2),
            (("=", ("<", 1, 2), ("+", 3, ("*", 4, 5))), "(1 < 2) = 3 + 4 * 5", 1),
            (("&", ("|", "x", "y"), ("|", "x", ("=", "y", 0))), "(x | y) & x | y = 0", 1),
            (("^", ("^", 2, 3), ("*", 4, ("/", 5, 6))), "(2 ^ 3) ^ (4 * (5 / 6))", 3),
            (("+", ("&", "p", "q"), 10 ** 100), "(p & q) + 1" + "0" * 100, 1),
        ]
        for tree, line, count in cases:
            self.assert_shown(table, tree, line)
            self.assertEqual(pairs_in(table, tree), count)

    def test_only_the_sign_straight_over_a_part_counts(self):
        table = [("+", 1, "left"), ("*", 2, "left"), ("^", 3, "right")]
        self.assert_shown(table, ("^", ("*", ("+", "a", "b"), "c"), "d"), "((a + b) * c) ^ d")
        self.assert_shown(table, ("+", "a", ("*", "b", ("^", "c", ("+", "d", "e")))), "a + b * c ^ (d + e)")

    def test_drawn_reckonings(self):
        for table, tree in drawn_cases("writing", 1500, 30):
            line = shown(table, tree)
            if line != written_by_the_document(table, tree):
                self.fail(f"{tree!r}: {line}")
            if pairs_in(table, tree) != line.count("(") or line.count("(") != line.count(")"):
                self.fail(f"{tree!r}: {pairs_in(table, tree)}")

    def test_large_drawn_reckonings(self):
        for table, tree in drawn_cases("large", 60, 130):
            self.assertEqual(shown(table, tree), written_by_the_document(table, tree))
            self.assertEqual(pairs_in(table, tree), shown(table, tree).count("("))


class AllBrackets(unittest.TestCase):
    def test_parts_on_both_sides(self):
        cases = [
            ("a", "a"),
            (("+", "a", "b"), "a + b"),
            (("+", ("+", "a", "b"), "c"), "(a + b) + c"),
            (("+", "a", ("+", "b", "c")), "a + (b + c)"),
            (("+", ("*", "a", 0), ("^", 12, "c")), "(a * 0) + (12 ^ c)"),
            (("=", ("-", ("-", "a", "b"), "c"), ("&", "d", ("|", "e", "f"))), "((a - b) - c) = (d & (e | f))"),
        ]
        for tree, line in cases:
            with self.subTest(tree=tree):
                self.assertEqual(all_brackets(tree), line)

    def test_no_sign_matters(self):
        for one, other in itertools.product(SIGNS, SIGNS):
            self.assertEqual(all_brackets((one, (other, 1, 2), (other, 3, 4))), f"(1 {other} 2) {one} (3 {other} 4)")

    def test_drawn_reckonings(self):
        for _, tree in drawn_cases("all", 300, 60):
            line = all_brackets(tree)
            self.assertEqual(line, all_brackets_by_the_document(tree))
            self.assertEqual(line.count("("), max(signs_in(tree) - 1, 0))

    def test_a_hundred_and_more_deep(self):
        tree = "a"
        for _ in range(250):
            tree = ("+", tree, 1)
        self.assertEqual(all_brackets(tree), "(" * 249 + "a + 1" + ") + 1" * 249)


class RefusedTables(unittest.TestCase):
    def test_the_table_is_refused_first(self):
        trees = ["a", 7, ("+", "a", "b"), ("+", ("-", "a", "b"), 1), ("/", "a", "b")]
        for refusal, table in REFUSED_TABLES:
            for tree in trees:
                for function in (shown, pairs_in):
                    with self.subTest(signs=[row[0] for row in table], tree=tree, function=function.__name__):
                        with self.assertRaises(BracketError) as taken:
                            function(table, tree)
                        self.assertIs(type(taken.exception), refusal)


class NothingIsChanged(unittest.TestCase):
    def test_table_and_reckoning_stay_as_they_were(self):
        for table, tree in drawn_cases("unchanged", 50, 20):
            before = copy.deepcopy((table, tree))
            rows = list(table)
            first = shown(table, tree), pairs_in(table, tree), all_brackets(tree)
            self.assertEqual((table, tree), before)
            self.assertTrue(all(row is old for row, old in zip(table, rows)))
            self.assertEqual((shown(table, tree), pairs_in(table, tree), all_brackets(tree)), first)

    def test_nothing_is_kept_from_table_to_table(self):
        tree = ("+", "a", ("*", "b", "c"))
        closer, looser = [("+", 1, "left"), ("*", 2, "left")], [("+", 2, "left"), ("*", 1, "left")]
        for _ in range(2):
            self.assertEqual(shown(closer, tree), "a + b * c")
            self.assertEqual(shown(looser, tree), "a + (b * c)")


class Interface(unittest.TestCase):
    def test_the_arguments_bear_their_names(self):
        table, tree = [("+", 1, "right")], ("+", ("+", 1, 2), 3)
        self.assertEqual(shown(table=table, tree=tree), "(1 + 2) + 3")
        self.assertEqual(pairs_in(table=table, tree=tree), 1)
        self.assertEqual(all_brackets(tree=tree), "(1 + 2) + 3")

    def test_the_kinds_of_the_answers(self):
        table = [("+", 1, "left")]
        for tree in ("a", 5, ("+", 1, "b")):
            self.assertIs(type(shown(table, tree)), str)
            self.assertIs(type(all_brackets(tree)), str)
            self.assertIs(type(pairs_in(table, tree)), int)


if __name__ == "__main__":
    unittest.main()
