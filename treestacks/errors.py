"""The errors of the package: each keeps what it is made with under its name."""


class GraftError(ValueError):
    """What all errors of the package stand under; it is never raised itself."""


class InvalidNumber(GraftError):
    """What was passed is not such a number."""

    def __init__(self, value):
        GraftError.__init__(self, "this is not such a number")
        self.value = value


class InvalidRules(GraftError):
    """What was passed is not such a tuple of rules."""

    def __init__(self, value):
        GraftError.__init__(self, "this is not such a tuple of rules")
        self.value = value


class InvalidRule(GraftError):
    """What was passed is not a rule that can stand there."""

    def __init__(self, value):
        GraftError.__init__(self, "this is not a rule that can stand there")
        self.value = value


class InvalidTrees(GraftError):
    """What was passed is not such a tuple of trees."""

    def __init__(self, value):
        GraftError.__init__(self, "this is not such a tuple of trees")
        self.value = value


class InvalidText(GraftError):
    """What was passed is not such a text."""

    def __init__(self, value):
        GraftError.__init__(self, "this is not such a text")
        self.value = value


class InvalidReading(GraftError):
    """What was passed is not such a reading."""

    def __init__(self, value):
        GraftError.__init__(self, "this is not such a reading")
        self.value = value


class InvalidRun(GraftError):
    """What was passed is not such a run."""

    def __init__(self, value):
        GraftError.__init__(self, "this is not such a run")
        self.value = value


class InvalidPlaces(GraftError):
    """What was passed are not two such places."""

    def __init__(self, value):
        GraftError.__init__(self, "these are not two such places")
        self.value = value


class InvalidQuestion(GraftError):
    """What was passed is not a question."""

    def __init__(self, value):
        GraftError.__init__(self, "this is not a question")
        self.value = value


class InvalidClaim(GraftError):
    """What was passed is not a claim."""

    def __init__(self, value):
        GraftError.__init__(self, "this is not a claim")
        self.value = value


class Endless(GraftError):
    """A kind comes back to itself without a word."""

    def __init__(self, kind):
        GraftError.__init__(self, "this kind comes back to itself")
        self.kind = kind


class Undefined(GraftError):
    """What was asked for is not there."""

    def __init__(self, what):
        GraftError.__init__(self, "this is not defined here")
        self.what = what


class NothingToUndo(GraftError):
    """There is no deed to undo, or none to redo."""

    def __init__(self, word):
        GraftError.__init__(self, "there is no such deed")
        self.word = word
