"""The errors of the package: each one keeps just what it was made with."""


class GrowError(ValueError):
    """What all errors of the package derive from."""


class BadWeb(GrowError):
    """A web was told wrongly: part says where."""

    def __init__(self, part):
        self.part = part


class BadRecord(GrowError):
    """A record was told wrongly: part and at say where."""

    def __init__(self, part, at):
        self.part = part
        self.at = at


class BadHall(GrowError):
    """A hall was told wrongly: part says where."""

    def __init__(self, part):
        self.part = part


class BadProgram(GrowError):
    """A program was told wrongly: part and at say where."""

    def __init__(self, part, at):
        self.part = part
        self.at = at


class BadStep(GrowError):
    """A step is none, or can't be done: index says which."""

    def __init__(self, index):
        self.index = index


class BadChoice(GrowError):
    """A chooser gave no step that can be done: number says in which call."""

    def __init__(self, number):
        self.number = number


class BadText(GrowError):
    """A text was written wrongly: line says where, counted from 1."""

    def __init__(self, line):
        self.line = line


class NoName(GrowError):
    """Nothing is kept under the name."""

    def __init__(self, name):
        self.name = name


class TooMany(GrowError):
    """There are more than most."""

    def __init__(self, most):
        self.most = most


class NoNumber(GrowError):
    """What should be a number is none, or out of bounds."""

    def __init__(self):
        pass


class NoPairs(GrowError):
    """What should be pairs of unlike machines is not."""

    def __init__(self):
        pass


class NoOrder(GrowError):
    """What should be an order of all machines is not."""

    def __init__(self):
        pass


class NoWire(GrowError):
    """What should be a wire is none, or none that fits here."""

    def __init__(self):
        pass


class NoMachine(GrowError):
    """What should be a machine is none."""

    def __init__(self):
        pass


class NoPut(GrowError):
    """What should be a put is none."""

    def __init__(self):
        pass


class NoWriters(GrowError):
    """What should be writers are none."""

    def __init__(self):
        pass


class OtherMachines(GrowError):
    """Two things have not equally many machines."""

    def __init__(self):
        pass


class NotMade(GrowError):
    """The record has no run, or the web did not make the days."""

    def __init__(self):
        pass


class NoDays(GrowError):
    """What should be days are none."""

    def __init__(self):
        pass


class NoWeb(GrowError):
    """No web made the days."""

    def __init__(self):
        pass


class NotWhole(GrowError):
    """Some machine of the record has not all puts."""

    def __init__(self):
        pass


class NoSights(GrowError):
    """What should be sights are none."""

    def __init__(self):
        pass


class NoPlaces(GrowError):
    """What should be places of rows is not."""

    def __init__(self):
        pass


class NoStep(GrowError):
    """What should be a step that can be done is none."""

    def __init__(self):
        pass


class NoRow(GrowError):
    """What should be a row is none, or none that fits here."""

    def __init__(self):
        pass


class IsDown(GrowError):
    """The machine is down already."""

    def __init__(self):
        pass


class IsUp(GrowError):
    """The machine is up already."""

    def __init__(self):
        pass


class NothingDone(GrowError):
    """There is nothing that could be taken back."""

    def __init__(self):
        pass


class NoLine(GrowError):
    """What should be a line for the desk is none."""

    def __init__(self):
        pass
