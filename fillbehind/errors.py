"""The errors of the package, with what they tell as attributes."""


class FillError(ValueError):
    """What all errors of the package derive from."""


class NoStatement(FillError):
    """A value is no statement."""

    def __init__(self):
        """There is nothing further to tell."""


class NoRow(FillError):
    """A part of a call is no row, or not what a row is made from."""

    def __init__(self, part):
        self.part = part


class NoNumber(FillError):
    """A part of a call is not the number that it must be."""

    def __init__(self, part):
        self.part = part


class NoWriter(FillError):
    """These parts make no Writer."""

    def __init__(self, part, index):
        self.part = part
        self.index = index


class NoFill(FillError):
    """These parts make no Fill."""

    def __init__(self, part):
        self.part = part


class NoPhase(FillError):
    """These parts make no Phase."""

    def __init__(self, part):
        self.part = part


class NoRollout(FillError):
    """A value is no Rollout, or these parts make none."""

    def __init__(self, part, index):
        self.part = part
        self.index = index


class NoRun(FillError):
    """A value is no Run, or these parts make none."""

    def __init__(self, part):
        self.part = part


class NoKey(FillError):
    """There is no row with this key."""

    def __init__(self, key):
        self.key = key


class NoDeed(FillError):
    """A value is no deed."""

    def __init__(self, deed):
        self.deed = deed


class NotNow(FillError):
    """A deed cannot be done at this moment."""

    def __init__(self, word):
        self.word = word


class NoDeeds(FillError):
    """These deeds cannot be done one behind the other."""

    def __init__(self, index):
        self.index = index


class NoState(FillError):
    """A value is no state."""

    def __init__(self):
        """There is nothing further to tell."""


class NoMove(FillError):
    """This deed cannot be done in this state."""

    def __init__(self, deed):
        self.deed = deed


class NoHistory(FillError):
    """A value is no history, or not one of the kind that is asked for."""

    def __init__(self, index):
        self.index = index


class NoTable(FillError):
    """A value is no closed table."""

    def __init__(self, index):
        self.index = index


class TooMany(FillError):
    """There are more states than were allowed."""

    def __init__(self, most):
        self.most = most


class NoWord(FillError):
    """This is no word for how a row looks."""

    def __init__(self, word):
        self.word = word


class NoAnswer(FillError):
    """An answer does not show what it says."""

    def __init__(self, part, index):
        self.part = part
        self.index = index


class NoOption(FillError):
    """This option cannot be taken."""

    def __init__(self, option):
        self.option = option


class NoOptions(FillError):
    """These options cannot be taken together."""

    def __init__(self, index):
        self.index = index


class NoText(FillError):
    """A value is not the text of a rollout."""

    def __init__(self, line):
        self.line = line


class NoChange(FillError):
    """This change cannot be made."""

    def __init__(self, word):
        self.word = word
