"""Lines read to reckonings."""

from fewbrackets.errors import NoLine
from fewbrackets.tables import rows_by_sign

LETTERS = "abcdefghijklmnopqrstuvwxyz"
FIGURES = "0123456789"


def read(table, line):
    reader = Reader(rows_by_sign(table))
    for token in tokens_of(line):
        reader.take(token)
    return reader.whole()


# Any sign that is neither a letter nor a figure is a token by itself, also
# one that no line may hold: the reader refuses it.
def tokens_of(line):
    tokens = []
    start = 0
    while start < len(line):
        end = end_of_token(line, start)
        token = line[start:end]
        if token != " ":
            tokens.append(token)
        start = end
    return tokens


def end_of_token(line, start):
    for run in (LETTERS, FIGURES):
        if line[start] in run:
            return end_of_run(line, start, run)
    return start + 1


def end_of_run(line, start, run):
    end = start
    while end < len(line) and line[end] in run:
        end += 1
    return end


def leaf_of(token):
    if token[0] in LETTERS:
        return token
    if token[0] not in FIGURES:
        raise NoLine(f"{token!r} is neither a sign of the table nor a leaf")
    if token[0] == "0" and token != "0":
        raise NoLine(f"the number {token} has a nought ahead")
    return int(token)


# Goes along the line once, and puts parts together as soon as it is sure that
# no later sign binds them more closely. That is what splitting the line at the
# sign of the least rank comes to, but brackets may lie as deep as they like.
class Reader:
    def __init__(self, rows):
        self.rows = rows
        self.parts = []
        # The signs whose right part isn't whole yet, and the "(" among them.
        self.waiting = []
        self.part_due = True

    def take(self, token):
        if token == "(":
            self.begin_brackets()
        elif token == ")":
            self.end_brackets()
        elif token in self.rows:
            self.take_sign(token)
        else:
            self.take_leaf(token)

    def begin_brackets(self):
        self.check_part_is_due("(")
        self.waiting.append("(")

    def end_brackets(self):
        self.check_part_is_there()
        self.put_all_together()
        if not self.waiting:
            raise NoLine("a ) has no ( ahead of it")
        self.waiting.pop()

    def take_sign(self, sign):
        self.check_part_is_there()
        while self.waiting and self.goes_ahead(self.waiting[-1], sign):
            self.put_together()
        self.waiting.append(sign)
        self.part_due = True

    def take_leaf(self, token):
        leaf = leaf_of(token)
        self.check_part_is_due(token)
        self.parts.append(leaf)
        self.part_due = False

    def whole(self):
        self.check_part_is_there()
        self.put_all_together()
        if self.waiting:
            raise NoLine("a ( has no ) behind it")
        return self.parts[0]

    def check_part_is_due(self, token):
        if not self.part_due:
            raise NoLine(f"no sign stands ahead of {token!r}")

    def check_part_is_there(self):
        if self.part_due:
            raise NoLine("a leaf or a bracket is missing")

    # Whether the sign that waits takes the part between the two.
    def goes_ahead(self, earlier, later):
        if earlier == "(":
            return False
        rank, side = self.rows[earlier]
        later_rank = self.rows[later][0]
        if rank != later_rank:
            return rank > later_rank
        if side == "none":
            raise NoLine(f"{earlier!r} and {later!r} can't stand beside one another")
        return side == "left"

    def put_all_together(self):
        while self.waiting and self.waiting[-1] != "(":
            self.put_together()

    def put_together(self):
        sign = self.waiting.pop()
        right = self.parts.pop()
        left = self.parts.pop()
        self.parts.append((sign, left, right))
