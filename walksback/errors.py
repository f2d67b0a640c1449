"""All errors of the package. An attribute contains the very value that was passed."""


class WalkError(ValueError):
    """A value that is not valid."""


class InvalidWord(WalkError):
    """No word of the kind that is asked for."""

    def __init__(self, value):
        self.value = value


class InvalidLetter(WalkError):
    """No letter from a to z."""

    def __init__(self, value):
        self.value = value


class InvalidLetters(WalkError):
    """No string of one to three unlike letters, rising."""

    def __init__(self, value):
        self.value = value


class InvalidNames(WalkError):
    """No renaming of just the letters of a lot."""

    def __init__(self, value):
        self.value = value


class InvalidLot(WalkError):
    """No Lot."""

    def __init__(self, value):
        self.value = value


class InvalidPlace(WalkError):
    """No place of the question."""

    def __init__(self, value):
        self.value = value


class InvalidNode(WalkError):
    """No node of the graph, or of so many nodes."""

    def __init__(self, value):
        self.value = value


class InvalidNodes(WalkError):
    """No number of nodes."""

    def __init__(self, value):
        self.value = value


class InvalidTie(WalkError):
    """No tie of the graph's nodes."""

    def __init__(self, value):
        self.value = value


class InvalidOrder(WalkError):
    """No list with each node once."""

    def __init__(self, value):
        self.value = value


class InvalidTelling(WalkError):
    """No telling."""

    def __init__(self, value):
        self.value = value


class InvalidRelation(WalkError):
    """No relation of so many nodes."""

    def __init__(self, value):
        self.value = value


class InvalidMatrix(WalkError):
    """No matrix, or no equations."""

    def __init__(self, value):
        self.value = value


class InvalidTable(WalkError):
    """No cost table, or no wide table."""

    def __init__(self, value):
        self.value = value


class InvalidKept(WalkError):
    """No kept answers of the lot."""

    def __init__(self, value):
        self.value = value


class InvalidPlan(WalkError):
    """No plan of the question by the lot."""

    def __init__(self, value):
        self.value = value


class InvalidCut(WalkError):
    """No cut of the question by the lot."""

    def __init__(self, value):
        self.value = value


class InvalidPrices(WalkError):
    """No prices, or no fares."""

    def __init__(self, value):
        self.value = value


class InvalidPair(WalkError):
    """No tuple of two nodes."""

    def __init__(self, value):
        self.value = value


class InvalidNumber(WalkError):
    """No number of the kind that is asked for."""

    def __init__(self, value):
        self.value = value


class InvalidLetting(WalkError):
    """No list of unlike standings."""

    def __init__(self, value):
        self.value = value


class InvalidMachine(WalkError):
    """No Machine."""

    def __init__(self, value):
        self.value = value


class InvalidMaps(WalkError):
    """No dict from letters to lists with each node once."""

    def __init__(self, value):
        self.value = value


class InvalidClaim(WalkError):
    """No claim."""

    def __init__(self, value):
        self.value = value


class InvalidCommand(WalkError):
    """No command."""

    def __init__(self, value):
        self.value = value


class InvalidWords(WalkError):
    """No list of words; None, or where the first wrong element stands."""

    def __init__(self, position):
        self.position = position


class InvalidPlaces(WalkError):
    """No list of unlike places; None, or where the first wrong element stands."""

    def __init__(self, position):
        self.position = position


class InvalidTies(WalkError):
    """No list of ties; None, or where the first wrong element stands."""

    def __init__(self, position):
        self.position = position


class InvalidQuestions(WalkError):
    """No list of questions; None, or where the first wrong element stands."""

    def __init__(self, position):
        self.position = position


class InvalidRows(WalkError):
    """No rows of a machine; None, or where the first wrong element stands."""

    def __init__(self, position):
        self.position = position


class InvalidPairs(WalkError):
    """No list of exchanges; None, or where the first wrong element stands."""

    def __init__(self, position):
        self.position = position


class InvalidText(WalkError):
    """No text of the kind; the wrong line, counted from 1."""

    def __init__(self, line):
        self.line = line


class MissingError(LookupError):
    """Something that is not there."""


class UnknownWord(MissingError):
    """No word of the lot."""

    def __init__(self, value):
        self.value = value


class UnknownTie(MissingError):
    """No tie of the graph."""

    def __init__(self, value):
        self.value = value


class UnknownName(MissingError):
    """No name of the desk."""

    def __init__(self, value):
        self.value = value


class StateError(RuntimeError):
    """Something that can not be told, or done, as things stand."""


class NotSettled(StateError):
    """The lot does not settle the question."""

    def __init__(self, value):
        self.value = value


class Settled(StateError):
    """The lot settles the question."""

    def __init__(self, value):
        self.value = value


class NoMatrices(StateError):
    """No matrices of the kind."""


class OtherNodes(StateError):
    """Two graphs of unlike numbers of nodes."""

    def __init__(self, one, other):
        self.one = one
        self.other = other


class OtherLetters(StateError):
    """Two machines of unlike letters."""

    def __init__(self, one, other):
        self.one = one
        self.other = other


class TakenName(StateError):
    """A name that the desk has already."""

    def __init__(self, value):
        self.value = value


class NothingToUndo(StateError):
    """No command is left that can be taken back."""


class CommandFailed(StateError):
    """The command at this position failed, and so none was done."""

    def __init__(self, position):
        self.position = position


class LimitError(ArithmeticError):
    """More than a limit lets."""


class TooMany(LimitError):
    """More of something than the limit of it."""

    def __init__(self, what, limit):
        self.what = what
        self.limit = limit
