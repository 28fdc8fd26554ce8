"""The refusals, one class for each."""


class BracketError(ValueError):
    pass


class NoTable(BracketError):
    pass


class TwiceThere(BracketError):
    pass


class MixedSides(BracketError):
    pass


class NoLine(BracketError):
    pass
