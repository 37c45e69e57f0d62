"""The errors of the package: each keeps the fields that it is made from."""


class PartlyError(ValueError):
    """What all errors of this package have in common."""


class BadPointers(PartlyError):
    """The pointer with this index is no name, stands there already, or is one too many."""

    def __init__(self, index):
        PartlyError.__init__(self, f"pointer {index} is wrong")
        self.index = index


class BadContract(PartlyError):
    """This line of a contract is wrong."""

    def __init__(self, line):
        PartlyError.__init__(self, f"line {line} of the contract is wrong")
        self.line = line


class BadProgram(PartlyError):
    """This line of a program is wrong, or an `end` is lacking behind the line ahead of it."""

    def __init__(self, line):
        PartlyError.__init__(self, f"line {line} of the program is wrong")
        self.line = line


class BadPlaces(PartlyError):
    """The number of places is not that of the pointers."""

    def __init__(self):
        PartlyError.__init__(self, "there is not one place for each pointer")


class BadCount(PartlyError):
    """A program cannot be done so many times."""

    def __init__(self, count):
        PartlyError.__init__(self, f"a program is not done {count} times")
        self.count = count


class OtherPointers(PartlyError):
    """Things that are used together have other pointers."""

    def __init__(self):
        PartlyError.__init__(self, "the pointers are not the same")


class HasRegisters(PartlyError):
    """A program has lines `input` or `give` where it must have none."""

    def __init__(self):
        PartlyError.__init__(self, "the program has lines input or give")


class NoLine(PartlyError):
    """The line with this number is not of the kind that is asked for."""

    def __init__(self, line):
        PartlyError.__init__(self, f"line {line} is none of those that are asked for")
        self.line = line


class NotTwo(PartlyError):
    """Distances are asked for, but there are not two pointers."""

    def __init__(self):
        PartlyError.__init__(self, "there are not two pointers")


class TooMany(PartlyError):
    """There are more than this limit."""

    def __init__(self, limit):
        PartlyError.__init__(self, f"there are more than {limit}")
        self.limit = limit


class Stuck(PartlyError):
    """No choice of options is enough: these places keep all of them."""

    def __init__(self, places):
        PartlyError.__init__(self, f"the outcomes are not equal from {places}")
        self.places = tuple(places)


class BadName(PartlyError):
    """This text is no name."""

    def __init__(self, name):
        PartlyError.__init__(self, f"this is no name: {name}")
        self.name = name


class Taken(PartlyError):
    """There is a function of this name."""

    def __init__(self, name):
        PartlyError.__init__(self, f"there is a function {name}")
        self.name = name


class NoFunction(PartlyError):
    """There is no function of this name."""

    def __init__(self, name):
        PartlyError.__init__(self, f"there is no function {name}")
        self.name = name


class Parted(PartlyError):
    """The outcomes of two programs are not equal from these places."""

    def __init__(self, places):
        PartlyError.__init__(self, f"the outcomes are not equal from {places}")
        self.places = tuple(places)


class Clash(PartlyError):
    """No places keep the facts."""

    def __init__(self):
        PartlyError.__init__(self, "no places keep the facts")


class NoFact(PartlyError):
    """There is no fact with this index."""

    def __init__(self, index):
        PartlyError.__init__(self, f"there is no fact {index}")
        self.index = index


class NothingToUndo(PartlyError):
    """There is no change that is not undone."""

    def __init__(self):
        PartlyError.__init__(self, "there is nothing to undo")
