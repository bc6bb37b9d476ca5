"""The refusals: one base, and under it one class for each, which bears its fields."""


class CutError(ValueError):
    """Any refusal."""


class NoForm(CutError):
    """What was asked is no form."""

    def __init__(self, word, number):
        self.word = word
        self.number = number


class NoDeed(CutError):
    """A deed cannot be done where its turn comes."""

    def __init__(self, number):
        self.number = number


class NoCut(CutError):
    """What was asked is no right cut, or no way through one."""

    def __init__(self, place, word):
        self.place = place
        self.word = word


class NoTaking(CutError):
    """What was asked is no taking, or a deed is not open to it."""

    def __init__(self, word, number):
        self.word = word
        self.number = number


class NoNumbers(CutError):
    """What was asked is no right numbering of choices."""

    def __init__(self, machine, choice):
        self.machine = machine
        self.choice = choice


class NoLine(CutError):
    """What was asked is not the latest line with its ways."""

    def __init__(self, machine, choice, word):
        self.machine = machine
        self.choice = choice
        self.word = word


class NoZigzag(CutError):
    """What was told of wanted choices is not so."""

    def __init__(self, number, word):
        self.number = number
        self.word = word


class NoWorld(CutError):
    """What was asked is no right world."""

    def __init__(self, machine, word):
        self.machine = machine
        self.word = word


class NoRun(CutError):
    """What was asked is no log, or no run that tells the outside."""

    def __init__(self, number):
        self.number = number


class NoText(CutError):
    """A text is not of the form that is told."""

    def __init__(self, at):
        self.at = at


class NoRow(CutError):
    """A row that the desk does not know."""

    def __init__(self, text):
        self.text = text
