"""The refusals, in two families.

The texts are fixed and do not show the fields: a field is kept whatever it
is, and not everything can be shown.
"""


class LendError(ValueError):
    """Any refusal."""


class ToldError(LendError):
    """What was handed in is not what it has to be, or too much."""


class AskedError(LendError):
    """What was asked for can not be done, as things stand."""


class NoSetup(ToldError):
    """It is no setup."""


class NoText(ToldError):
    """It is not written as told; line is the first such line, or None."""

    def __init__(self, line=None):
        ToldError.__init__(self, "this is not written as it has to be")
        self.line = line


class NoRow(ToldError):
    """It is no row of a desk."""


class TooMany(ToldError):
    """It would be one thing more than the world may do."""

    def __init__(self, most):
        ToldError.__init__(self, "the world has done the most things that it may")
        self.most = most


class NoClient(AskedError):
    """There is no client of this name."""

    def __init__(self, name):
        AskedError.__init__(self, "there is no client of this name")
        self.name = name


class NoFile(AskedError):
    """There is no file of this name."""

    def __init__(self, name):
        AskedError.__init__(self, "there is no file of this name")
        self.name = name


class NoPage(AskedError):
    """The file has no page of this number."""

    def __init__(self, page):
        AskedError.__init__(self, "the file has no page of this number")
        self.page = page


class NoValue(AskedError):
    """It is no value that can be written."""


class NoTicks(AskedError):
    """It is no time that can pass."""


class NoMessage(AskedError):
    """No message of this number is on the wire."""

    def __init__(self, number):
        AskedError.__init__(self, "no message of this number is on the wire")
        self.number = number


class Busy(AskedError):
    """A task of this client waits."""

    def __init__(self, name):
        AskedError.__init__(self, "a task of this client waits")
        self.name = name


class NotWaiting(AskedError):
    """No task of this client waits."""

    def __init__(self, name):
        AskedError.__init__(self, "no task of this client waits")
        self.name = name


class NoLease(AskedError):
    """The client has no lease of the file."""


class Clean(AskedError):
    """The client has nothing dirty of the file."""


class NothingLeft(AskedError):
    """Nothing is left to take back."""


class NoList(AskedError):
    """The desk has no list of this name."""

    def __init__(self, name):
        AskedError.__init__(self, "the desk has no list of this name")
        self.name = name


class TooDeep(AskedError):
    """Too many lists are under way."""
