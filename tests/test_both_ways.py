"""Reckonings written and read again."""

import itertools
import random
import unittest

from drawn import (ORDINARY, SIDES, drawn_cases, drawn_leaf, drawn_table, drawn_tree, every_tree,
                   pairs_of_brackets, signs_in)

from fewbrackets.errors import NoLine
from fewbrackets.reading import read
from fewbrackets.writing import all_brackets, pairs_in, shown


def without(line, pair):
    begin, end = pair
    return line[:begin] + line[begin + 1:end] + line[end + 1:]


def reckoning_or_none(table, line):
    try:
        return read(table, line)
    except NoLine:
        return None


def small_tables():
    """Two signs, of the same rank or not, with each side."""
    for one, other in itertools.product(SIDES, SIDES):
        yield [("+", 0, one), ("*", 1, other)]
    for side in SIDES:
        yield [("+", 0, side), ("*", 0, side)]


class BothWays(unittest.TestCase):
    def assert_read_again(self, table, tree):
        for line in (shown(table, tree), all_brackets(tree)):
            if read(table, line) != tree:
                self.fail(f"{tree!r} is written as {line}")

    def assert_no_bracket_could_go(self, table, tree):
        line = shown(table, tree)
        pairs = pairs_of_brackets(line)
        self.assertEqual(len(pairs), pairs_in(table, tree))
        for pair in pairs:
            if reckoning_or_none(table, without(line, pair)) == tree:
                self.fail(f"{line} has a bracket too many")

    def test_leaves(self):
        for leaf in [0, 1, 10, 10 ** 99, 10 ** 100 - 1, 10 ** 100, 10 ** 500, "a", "z", "abc", "y" * 200]:
            for table in ([], ORDINARY):
                self.assert_read_again(table, leaf)
                self.assertEqual(pairs_in(table, leaf), 0)

    def test_every_small_reckoning(self):
        for table in small_tables():
            for count in range(5):
                for tree in every_tree("+*", "a", count):
                    self.assert_read_again(table, tree)
                    self.assert_no_bracket_could_go(table, tree)

    def test_drawn_reckonings(self):
        for table, tree in drawn_cases("both ways", 2500, 25):
            self.assert_read_again(table, tree)

    def test_no_bracket_of_a_drawn_line_could_go(self):
        for table, tree in drawn_cases("no bracket too many", 700, 25):
            self.assert_no_bracket_could_go(table, tree)

    def test_the_fewest_brackets_that_are_enough(self):
        """No choice of the brackets of all_brackets with fewer pairs is read to the reckoning."""
        for table, tree in drawn_cases("fewest", 150, 7):
            line = all_brackets(tree)
            pairs = pairs_of_brackets(line)
            for count in range(pairs_in(table, tree)):
                for kept in itertools.combinations(pairs, count):
                    struck = {place for pair in pairs if pair not in kept for place in pair}
                    shorter = "".join(sign for place, sign in enumerate(line) if place not in struck)
                    self.assertNotEqual(reckoning_or_none(table, shorter), tree)

    def test_two_reckonings_never_have_the_same_line(self):
        for table in small_tables():
            trees = every_tree("+*", "a", 4)
            self.assertEqual(len({shown(table, tree) for tree in trees}), len(trees))

    def test_a_hundred_signs_and_more(self):
        source = random.Random("large")
        for count in (99, 100, 101, 130):
            for _ in range(25):
                table = drawn_table(source)
                tree = drawn_tree(source, table, count)
                self.assertEqual(signs_in(tree), count)
                self.assert_read_again(table, tree)
        for _ in range(8):
            table = drawn_table(source)
            self.assert_no_bracket_could_go(table, drawn_tree(source, table, 100))

    def test_deep_reckonings(self):
        source = random.Random("deep")
        for side, count in itertools.product(SIDES, (100, 150, 151, 250)):
            table = [("+", 0, side), ("*", 1, "none")]
            left, right, both = "a", "a", "a"
            for place in range(count):
                left, right = ("+", left, drawn_leaf(source)), ("+", drawn_leaf(source), right)
                both = ("*", both, 1) if place % 2 else ("+", 0, both)
            for tree in (left, right, both):
                self.assert_read_again(table, tree)

    def test_five_hundred_pairs_of_brackets(self):
        source = random.Random("pairs")
        for _ in range(40):
            table = drawn_table(source)
            tree = drawn_tree(source, table, 100)
            line = shown(table, tree)
            times = {}
            for begin, end in pairs_of_brackets(line):
                times[begin] = times[end] = source.randint(1, 4)
            line = "".join(sign * times.get(place, 1) for place, sign in enumerate(line))
            around = max(500 - line.count("("), 0)
            line = "(" * (around // 2) + "( " * (around - around // 2) + line + " )" * around
            self.assertGreaterEqual(line.count("("), 500)
            self.assertEqual(read(table, line), tree)

    def test_the_order_of_the_rows_does_not_matter(self):
        source = random.Random("rows")
        for table, tree in drawn_cases("orders", 100, 15):
            line = shown(table, tree)
            for _ in range(3):
                source.shuffle(table)
                self.assertEqual(shown(table, tree), line)
                self.assertEqual(read(table, line), tree)


if __name__ == "__main__":
    unittest.main()
