"""The errors of the package."""


class FolkError(ValueError):
    """The base class of all errors of the package."""


class BadWeb(FolkError):
    """A value is no web; part is the first of "web", "tops", "looks" that is wrong."""

    def __init__(self, part):
        super().__init__(f"no web: {part}")
        self.part = part


class BadRules(FolkError):
    """A value is no rules; folk is the first one without a table, None if there are not so many things."""

    def __init__(self, folk):
        super().__init__(f"no rules: {folk}")
        self.folk = folk


class BadState(FolkError):
    """A value is no state of the web."""


class BadFolk(FolkError):
    """A value is no number of one of the folk."""


class BadLot(FolkError):
    """A value is no lot of folk, or of looks."""


class BadRing(FolkError):
    """A value is no ring of the web."""


class BadNumber(FolkError):
    """A value is no number that is allowed here."""


class BadWord(FolkError):
    """A value is no word that is allowed here."""


class HasOdd(FolkError):
    """The web has an odd ring."""


class HasRing(FolkError):
    """The web has a ring."""


class NoEven(FolkError):
    """There is no even ring."""


class NoOdd(FolkError):
    """There is no odd ring."""


class BadStep(FolkError):
    """There is no step to take back."""


class TooMany(FolkError):
    """There are more things than most."""

    def __init__(self, most):
        super().__init__(f"more than {most}")
        self.most = most


class BadLine(FolkError):
    """A text is wrong in a line, counted from 0."""

    def __init__(self, line):
        super().__init__(f"wrong in line {line}")
        self.line = line


class BadHeld(FolkError):
    """A value does not tell who is held at which mood."""
