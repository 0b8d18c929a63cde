"""The errors of the package: one base class, four families, eight errors with fields."""


class ForkError(ValueError):
    """The base class of all errors of the package."""


class PaperError(ForkError):
    """The family of what a checker raises."""


class KindError(ForkError):
    """The family of values that cannot be used."""


class YardError(ForkError):
    """The family of events that cannot happen or be taken back."""


class TextError(ForkError):
    """The family of texts that write nothing."""


class InvalidPaper(PaperError):
    """A checker refuses a value: for which reason, and where."""

    def __init__(self, word, at):
        self.word = word
        self.at = at


class NotUsable(KindError):
    """A parameter is not as stated: its name, and which of several."""

    def __init__(self, word, at):
        self.word = word
        self.at = at


class InvalidEvent(YardError):
    """An event is not possible, for this reason."""

    def __init__(self, event, reason):
        self.event = event
        self.reason = reason


class NothingToUndo(YardError):
    """There is nothing to take back."""

    def __init__(self, steps):
        self.steps = steps


class Broken(YardError):
    """A row of events broke off behind so many."""

    def __init__(self, done):
        self.done = done


class InvalidText(TextError):
    """A text of several lines has a word that cannot stand, or misses one."""

    def __init__(self, line, field):
        self.line = line
        self.field = field


class InvalidRow(TextError):
    """A text of one line writes nothing."""

    def __init__(self, row):
        self.row = row
