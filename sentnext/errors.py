"""The errors that this package raises."""


class AskError(ValueError):
    """Every error of this package."""


class NoRing(AskError):
    """A value is no ring."""

    def __init__(self, word):
        self.word = word


class NoLedger(AskError):
    """A value is no ledger."""

    def __init__(self, word, number):
        self.word = word
        self.number = number


class NotSure(AskError):
    """A way of asking is not sure: it goes as course and asks show."""

    def __init__(self, course, asks):
        self.course = course
        self.asks = asks


class NoCourse(AskError):
    """No course fits a log, up to its pair of this number."""

    def __init__(self, number):
        self.number = number


class NothingDone(AskError):
    """There is nothing to be taken back."""


class BadText(AskError):
    """A text is wrong at this word of this text line."""

    def __init__(self, line, word):
        self.line = line
        self.word = word
