"""The errors of the program."""


class WishError(ValueError):
    """The base class of all errors of the program."""


class BadValue(WishError):
    """An argument has a wrong form: `name` tells which one."""

    def __init__(self, name):
        super().__init__(f"{name} has a wrong form")
        self.name = name


class TooLarge(WishError):
    """A bound is passed: `what` tells of what."""

    def __init__(self, what):
        super().__init__(f"{what} is too large")
        self.what = what


class NotPossible(WishError):
    """What is asked for cannot be done: `why` tells the reason."""

    def __init__(self, why):
        super().__init__(f"not possible: {why}")
        self.why = why


class TextError(WishError):
    """A text has a problem: `column` tells where, `words` tell which."""

    def __init__(self, column, words):
        super().__init__(f"column {column}: {words}")
        self.column = column
        self.words = words
