import copy
import itertools
import random
import re
import unittest

from drawn import ORDINARY, REFUSED_TABLES, SIDES, SIGNS, VAST, drawn_table, drawn_tree

from fewbrackets.errors import BracketError, NoLine
from fewbrackets.reading import read
from fewbrackets.writing import all_brackets, shown

ASCII = [chr(code) for code in range(128)]
SMALL = [("+", 1, "left"), ("<", 0, "none")]


def read_by_the_document(table, line):
    """Points 7 to 9 once more, word by word: the reckoning, or NoLine."""
    if not re.fullmatch(r"[-a-z0-9+*/^<>=&|() ]*", line):
        return NoLine
    tokens = re.findall(r"[a-z]+|[0-9]+|[^ ]", line)
    known = [row[0] for row in table]
    for token in tokens:
        if token in SIGNS and token not in known or re.fullmatch("0[0-9]+", token):
            return NoLine
    return read_tokens(table, tokens)


def read_tokens(table, tokens):
    """The parts of the line with the signs between them, then point 8."""
    items = []
    while tokens:
        if tokens[0] == "(":
            deep, end = 1, 1
            while deep and end < len(tokens):
                deep += {"(": 1, ")": -1}.get(tokens[end], 0)
                end += 1
            if deep:
                return NoLine
            part = read_tokens(table, tokens[1:end - 1])
            if part is NoLine:
                return NoLine
            items.append(("part", part))
            tokens = tokens[end:]
            continue
        if tokens[0] == ")":
            return NoLine
        if tokens[0] in SIGNS:
            items.append(("sign", tokens[0]))
        else:
            items.append(("part", int(tokens[0]) if tokens[0].isdigit() else tokens[0]))
        tokens = tokens[1:]
    kinds = [kind for kind, _ in items]
    if len(items) % 2 == 0 or kinds != (["part", "sign"] * len(items))[:len(items)]:
        return NoLine
    return put_together(table, [value for _, value in items])


def put_together(table, values):
    if len(values) == 1:
        return values[0]
    rank = {row[0]: row[1] for row in table}
    side = {row[0]: row[2] for row in table}
    least = min(rank[sign] for sign in values[1::2])
    places = [place for place in range(1, len(values), 2) if rank[values[place]] == least]
    if len(places) > 1 and side[values[places[0]]] == "none":
        return NoLine
    place = places[0] if side[values[places[0]]] == "right" else places[-1]
    left, right = put_together(table, values[:place]), put_together(table, values[place + 1:])
    if left is NoLine or right is NoLine:
        return NoLine
    return (values[place], left, right)


def answer_of(table, line):
    try:
        return read(table, line)
    except BracketError as error:
        return type(error)


class ReadingCase(unittest.TestCase):
    def assert_read(self, table, line, tree):
        with self.subTest(line=line):
            answer = read(table, line)
            self.assertEqual(answer, tree)
            self.assertIs(type(answer), type(tree))

    def assert_refused(self, table, line):
        with self.subTest(line=line):
            self.assertIs(answer_of(table, line), NoLine)

    def assert_as_the_document_says(self, table, line):
        answer = answer_of(table, line)
        if answer != read_by_the_document(table, line):
            self.fail(f"{line!r} is read to {answer!r}")


class Leaves(ReadingCase):
    def test_numbers(self):
        for number in [0, 1, 7, 9, 10, 100, 101, 90210, 10 ** 99, 10 ** 100 - 1, 10 ** 100, 10 ** 130 + 7, 10 ** 999]:
            for table in ([], SMALL):
                self.assert_read(table, str(number), number)
                self.assert_read(table, f"(({number}))", number)

    def test_names(self):
        for name in ["a", "z", "m", "ab", "za", "abcdefghijklmnopqrstuvwxyz", "left", "none", "e", "x" * 300]:
            for table in ([], SMALL):
                self.assert_read(table, name, name)
                self.assert_read(table, f" ( {name} )", name)

    def test_every_letter_and_every_figure(self):
        for sign in "abcdefghijklmnopqrstuvwxyz":
            self.assert_read([], sign, sign)
            self.assert_read([], "k" + sign + "k", "k" + sign + "k")
        for figure in "0123456789":
            self.assert_read([], figure, int(figure))
            self.assert_read([], "3" + figure + "4", int("3" + figure + "4"))

    def test_they_go_on_as_far_as_they_can(self):
        self.assert_read(SMALL, "ab+120", ("+", "ab", 120))
        self.assert_read(SMALL, "120+ab", ("+", 120, "ab"))


class Blanks(ReadingCase):
    tokens = ["(", "(", "ab", "+", "12", ")", "<", "c", ")", "*", "0"]
    table = [("+", 1, "left"), ("<", 0, "none"), ("*", 2, "right")]
    tree = ("*", ("<", ("+", "ab", 12), "c"), 0)

    def test_none_at_all(self):
        self.assert_read(self.table, "".join(self.tokens), self.tree)

    def test_the_same_number_everywhere(self):
        for number in (1, 2, 3, 50):
            blanks = " " * number
            self.assert_read(self.table, blanks + blanks.join(self.tokens) + blanks, self.tree)

    def test_any_number_at_each_single_place(self):
        for place in range(len(self.tokens) + 1):
            for number in (1, 2, 7):
                pieces = self.tokens[:place] + [" " * number] + self.tokens[place:]
                self.assert_read(self.table, "".join(pieces), self.tree)

    def test_none_or_one_at_every_place(self):
        for choice in itertools.product(["", " "], repeat=len(self.tokens) + 1):
            line = choice[0] + "".join(token + blank for token, blank in zip(self.tokens, choice[1:]))
            if read(self.table, line) != self.tree:
                self.fail(repr(line))

    def test_none_within_a_name_or_a_number(self):
        self.assert_refused(self.table, "a b")
        self.assert_refused(self.table, "1 2")
        self.assert_refused(self.table, "ab + 1 2")

    def test_nothing_else_is_a_blank(self):
        for blank in ["\t", "\n", "\r", "\v", "\f", "\0", "\x1c", "\x1f", "\x7f"]:
            for line in ["a{}+ b", "{}a", "a{}", "a + b{}", "( a{})", "a{}b", "{}"]:
                self.assert_refused(self.table, line.format(blank))


class MoreBracketsThanNeeded(ReadingCase):
    def test_round_leaves_parts_and_the_whole(self):
        tree = ("+", ("*", "a", 1), "b")
        table = [("+", 1, "left"), ("*", 2, "left")]
        for leaf, part, whole in itertools.product(range(4), repeat=3):
            inner = "(" * part + "(" * leaf + "a" + ")" * leaf + " * " + "(" * leaf + "1" + ")" * leaf + ")" * part
            line = "(" * whole + inner + "+" + "(" * leaf + "b" + ")" * leaf + ")" * whole
            self.assert_read(table, line, tree)

    def test_they_hold_together_what_stands_in_them(self):
        table = [("-", 1, "left"), ("^", 2, "right"), ("=", 0, "none")]
        self.assert_read(table, "a - (b - c)", ("-", "a", ("-", "b", "c")))
        self.assert_read(table, "((a - b)) - c", ("-", ("-", "a", "b"), "c"))
        self.assert_read(table, "(a ^ b) ^ c", ("^", ("^", "a", "b"), "c"))
        self.assert_read(table, "a ^ ((b ^ c))", ("^", "a", ("^", "b", "c")))
        self.assert_read(table, "(a = b) = c", ("=", ("=", "a", "b"), "c"))
        self.assert_read(table, "a = (b = c)", ("=", "a", ("=", "b", "c")))
        self.assert_read(table, "((a = b) - c) ^ d", ("^", ("-", ("=", "a", "b"), "c"), "d"))

    def test_deep_within_one_another(self):
        for deep in (1, 2, 149, 150, 151, 200, 500, 1500):
            self.assert_read([], "(" * deep + "a" + ")" * deep, "a")
            self.assert_read(SMALL, "(" * deep + "a + 1" + ")" * deep + " + b", ("+", ("+", "a", 1), "b"))
            self.assert_refused(SMALL, "(" * deep + "a" + ")" * (deep - 1))
            self.assert_refused(SMALL, "(" * deep + "a" + ")" * (deep + 1))
            self.assert_refused(SMALL, "(" * deep + ")" * deep)

    def test_five_hundred_pairs_and_more(self):
        for pairs in (499, 500, 501, 700):
            leaf = "(" * (pairs // 10) + "a" + ")" * (pairs // 10)
            tree = "a"
            for _ in range(9):
                tree = ("+", tree, "a")
            self.assert_read(SMALL, " + ".join([leaf] * 10), tree)


class RanksAndSides(ReadingCase):
    def test_the_sign_of_the_least_rank(self):
        for less, more in [(0, 1), (-1, 0), (-9, -8), (9, 10), (-VAST, VAST), (VAST, VAST + 1), (2 ** 53, 2 ** 53 + 1)]:
            for one, other in itertools.product(SIDES, SIDES):
                for table in ([("+", less, one), ("*", more, other)], [("*", more, other), ("+", less, one)]):
                    self.assert_read(table, "a + b * c", ("+", "a", ("*", "b", "c")))
                    self.assert_read(table, "a * b + c", ("+", ("*", "a", "b"), "c"))
                    self.assert_read(table, "a * b + c * d", ("+", ("*", "a", "b"), ("*", "c", "d")))
                    self.assert_read(table, "(a + b) * c", ("*", ("+", "a", "b"), "c"))

    def test_signs_of_one_rank(self):
        for rank in (0, -3, 5, VAST, -VAST):
            left, right, none = [[("-", rank, side), ("+", rank, side)] for side in SIDES]
            for one, other in itertools.product("-+", "-+"):
                line = f"a {one} b {other} c"
                self.assert_read(left, line, (other, (one, "a", "b"), "c"))
                self.assert_read(right, line, (one, "a", (other, "b", "c")))
                self.assert_refused(none, line)

    def test_a_long_line_of_one_sign(self):
        for count in (3, 100, 101, 150):
            left, right = 0, count
            for number in range(1, count + 1):
                left, right = ("-", left, number), ("-", count - number, right)
            line = " - ".join(str(number) for number in range(count + 1))
            self.assert_read([("-", 0, "left")], line, left)
            self.assert_read([("-", 0, "right")], line, right)
            self.assert_refused([("-", 0, "none")], line)

    def test_signs_of_several_ranks(self):
        self.assert_read(
            ORDINARY, "a & b | c = 1 + 2 * 3 ^ 4 ^ 5 / 6 - 7",
            ("&", "a", ("|", "b", ("=", "c", ("-", ("+", 1, ("/", ("*", 2, ("^", 3, ("^", 4, 5))), 6)), 7)))))
        self.assert_read(
            ORDINARY, "a ^ b * c - d - e * f ^ g < h & i = j",
            ("&", ("<", ("-", ("-", ("*", ("^", "a", "b"), "c"), "d"), ("*", "e", ("^", "f", "g"))), "h"),
             ("=", "i", "j")))

    def test_the_side_none(self):
        table = [("&", -1, "left"), ("=", 0, "none"), ("<", 0, "none"), ("+", 1, "left")]
        for one, other in itertools.product("=<", "=<"):
            self.assert_refused(table, f"a {one} b {other} c")
            self.assert_refused(table, f"a {one} b + c {other} d")
            self.assert_refused(table, f"a + b {one} c + d {other} e + f")
            self.assert_refused(table, f"x & a {one} b {other} c")
            self.assert_refused(table, f"a {one} b {other} c & x")
            self.assert_refused(table, f"(a {one} b {other} c)")
            self.assert_refused(table, f"x + (a {one} b {other} c)")
            self.assert_refused(table, f"a {one} (b) {other} c")
            self.assert_refused(table, f"a {one} b & c {other} d {one} e")
            self.assert_read(table, f"a {one} b & c {other} d", ("&", (one, "a", "b"), (other, "c", "d")))
            self.assert_read(table, f"a {one} (b {other} c)", (one, "a", (other, "b", "c")))
            self.assert_read(table, f"(a {one} b) {other} c", (other, (one, "a", "b"), "c"))
            self.assert_read(table, f"a {one} b + (c {other} d)", (one, "a", ("+", "b", (other, "c", "d"))))

    def test_every_short_line_of_leaves(self):
        signs = ["+", "-", "*", "/"]
        for ranks in [(0, 0, 1, 1), (0, 1, 2, 3), (0, 0, 0, 1)]:
            for sides in itertools.product(SIDES, repeat=2):
                table = [(sign, rank, sides[rank % 2]) for sign, rank in zip(signs, ranks)]
                for count in range(5):
                    for drawn in itertools.product(signs, repeat=count):
                        line = "a" + "".join(sign + leaf for sign, leaf in zip(drawn, "bcde"))
                        self.assert_as_the_document_says(table, line)

    def test_long_drawn_lines(self):
        source = random.Random("long lines")
        for _ in range(400):
            table = drawn_table(source)
            signs = [row[0] for row in table if row[2] != "none"] or [table[0][0]]
            line = "a"
            for _ in range(source.randint(1, 110)):
                line += source.choice(signs) + source.choice(["a", "b", "0", "17", "(c)", "((5 ) )"])
            self.assert_as_the_document_says(table, line)


class RefusedLines(ReadingCase):
    def test_the_examples_of_the_document(self):
        for line in ["a +", "+ a", "a b", "a (b)", "()", "(a", "a)", "a + + b", "a1", "01", "A", ""]:
            for table in ([], SMALL, ORDINARY):
                self.assert_refused(table, line)

    def test_nothing_but_blanks(self):
        for line in ["", " ", "   ", "( )", "(  ( ) )"]:
            self.assert_refused(ORDINARY, line)

    def test_brackets_that_do_not_match(self):
        for line in ["(", ")", ")(", "(()", "())", "((a)", "(a))", ")a(", "a + (b", "a + b)", "(a + b", "a) + (b",
                     "(a + b))", "((a + b)", "(a + b) * c)", "(a + (b + c)", "(a))+((b)"]:
            self.assert_refused(ORDINARY, line)

    def test_empty_brackets(self):
        for line in ["()", "( )", "(())", "a()", "()a", "a + ()", "() + a", "(() + a)", "a + (()) + b", "()()"]:
            self.assert_refused(ORDINARY, line)

    def test_signs_without_a_part(self):
        for sign in SIGNS[:5]:
            for line in ["{}", "a {}", "{} a", "({} a)", "(a {})", "a {} {} b", "a {}{} b", "a {} ({} b)", "(a {}) b",
                         "a {} b {}", "{} a {} b", "a {} () {} b", "({})", "a ({}) b", "(a {} ) {} b"]:
                self.assert_refused(ORDINARY, line.replace("{}", sign))

    def test_parts_without_a_sign(self):
        for line in ["a b", "a 1", "1 a", "1 2", "0 0", "a1", "1a", "a1b", "12ab", "a(b)", "(a)b", "(a)(b)", "(a) 1",
                     "1(2)", "a + b c", "a b + c", "(a b)", "(a + b)(c + d)", "(a + b) c", "c (a + b)", "a + 1b"]:
            self.assert_refused(ORDINARY, line)

    def test_numbers_with_a_nought_ahead(self):
        for line in ["00", "01", "007", "000", "0" * 100, "0" + "9" * 100, "0" * 5000, "a + 01", "01 + a", "(00)",
                     "10 + 00", "-0 1", "0 0"]:
            self.assert_refused(ORDINARY, line)
        self.assert_read(ORDINARY, "10 + 0 + 100", ("+", ("+", 10, 0), 100))

    def test_no_sign_ahead_of_a_number(self):
        for line in ["-1", "+1", "a + -1", "a * (-1)", "--1"]:
            self.assert_refused(ORDINARY, line)

    def test_numbers_in_other_forms(self):
        for line in ["1_000", "1.5", "1.", ".5", "1e5", "0x1f", "0b1", "1,000", "1'000"]:
            self.assert_refused(ORDINARY, line)

    def test_names_in_other_forms(self):
        for line in ["A", "aB", "Ab", "Z", "a_b", "_", "_a", "a.b", "a'", "a\"", "'a'", "a$", "@a", "a\\b"]:
            self.assert_refused(ORDINARY, line)

    def test_signs_that_the_table_lacks(self):
        for lacking in SIGNS:
            table = [(sign, 1, "left") for sign in SIGNS if sign != lacking]
            for line in ["a {} b", "a{}b", "{}", "a + (b {} c)", "(a {} b) - c", "a {}"]:
                self.assert_refused(table, line.replace("{}", lacking))
            for row in table:
                self.assert_read(table, f"a {row[0]} b", (row[0], "a", "b"))

    def test_the_table_without_signs(self):
        self.assert_read([], "a", "a")
        self.assert_read([], " (( 12 ) )", 12)
        for sign in SIGNS:
            self.assert_refused([], f"a {sign} b")
            self.assert_refused([], sign)

    def test_signs_of_two_signs(self):
        for line in ["a <= b", "a && b", "a || b", "a ** b", "a == b", "a -> b", "a +- b", "a // b"]:
            self.assert_refused([(sign, rank, "left") for rank, sign in enumerate(SIGNS)], line)

    def test_other_ascii_signs(self):
        for sign in ASCII:
            if sign not in "abcdefghijklmnopqrstuvwxyz0123456789+-*/^<>=&|() ":
                for line in ["{}", "a{}", "{}a", "a {} b", "a + {}", "({})", "a {} + b", "1{}", "a{}b", "a + b {}"]:
                    self.assert_refused(ORDINARY, line.replace("{}", sign))

    def test_words_of_the_table(self):
        for line in ["a left b", "left a", "a none"]:
            self.assert_refused(ORDINARY, line)


class EveryLine(ReadingCase):
    def test_every_short_line(self):
        for length in range(6):
            for signs in itertools.product("a01+<() ", repeat=length):
                self.assert_as_the_document_says(SMALL, "".join(signs))

    def test_every_line_of_up_to_seven_leaves_signs_and_brackets(self):
        for length in range(8):
            for signs in itertools.product("a+<()", repeat=length):
                self.assert_as_the_document_says(SMALL, "".join(signs))

    def test_each_ascii_sign_at_each_place(self):
        line = "(ab + 10) * c=0"
        for place in range(len(line) + 1):
            for sign in ASCII:
                self.assert_as_the_document_says(ORDINARY, line[:place] + sign + line[place:])
                self.assert_as_the_document_says(ORDINARY, line[:place] + sign + line[place + 1:])

    def test_drawn_lines_with_something_wrong(self):
        source = random.Random("wrong lines")
        refused = 0
        for _ in range(4000):
            table = drawn_table(source)
            tree = drawn_tree(source, table, source.randint(0, 12))
            line = source.choice([shown(table, tree), all_brackets(tree)])
            for _ in range(source.randint(1, 3)):
                place = source.randrange(len(line) + 1)
                behind = place + source.randint(0, 1)
                line = line[:place] + source.choice(["", "", "(", ")", " ", "a", "0", "7"] + SIGNS) + line[behind:]
            self.assert_as_the_document_says(table, line)
            refused += answer_of(table, line) is NoLine
        self.assertTrue(1000 < refused < 3900, refused)


class RefusedTables(unittest.TestCase):
    def test_the_table_is_refused_first(self):
        lines = ["a", "7", "a + b", "a + b + c", "a - b + c", "", "()", "a +", "A", "01", "\t", "(" * 200, "a / b"]
        for refusal, table in REFUSED_TABLES:
            for line in lines:
                with self.subTest(signs=[row[0] for row in table], line=line):
                    self.assertIs(answer_of(table, line), refusal)


class NothingIsChanged(unittest.TestCase):
    def test_the_table_stays_as_it_was(self):
        for line in ["a", "a + b * c - d", "(a + b) * c", "a = b = c", "a +", "((a)", "", "%"]:
            table = list(ORDINARY)
            before = copy.deepcopy(table)
            first = answer_of(table, line)
            self.assertEqual(table, before)
            self.assertTrue(all(row is old for row, old in zip(table, ORDINARY)))
            self.assertEqual(answer_of(table, line), first)

    def test_nothing_is_kept_from_call_to_call(self):
        for _ in range(2):
            self.assertIs(answer_of(SMALL, "(a + "), NoLine)
            self.assertEqual(answer_of(SMALL, "b"), "b")
            self.assertIs(answer_of(SMALL, "a < b <"), NoLine)
            self.assertEqual(answer_of(SMALL, "b < 1"), ("<", "b", 1))
            self.assertEqual(answer_of([("<", 1, "left")], "a < b < c"), ("<", ("<", "a", "b"), "c"))
            self.assertIs(answer_of(SMALL, "a < b < c"), NoLine)


class Interface(unittest.TestCase):
    def test_the_arguments_bear_their_names(self):
        self.assertEqual(read(table=SMALL, line="a + 1"), ("+", "a", 1))

    def test_the_kinds_of_the_answers(self):
        self.assertIs(type(read(SMALL, "12")), int)
        self.assertIs(type(read(SMALL, "ab")), str)
        tree = read(SMALL, "ab + 12 < c")
        self.assertIs(type(tree), tuple)
        self.assertIs(type(tree[1]), tuple)
        self.assertEqual([type(value) for value in tree[1]], [str, str, int])


if __name__ == "__main__":
    unittest.main()
