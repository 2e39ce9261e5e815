"""The errors of the package. Each keeps its arguments as attributes of the same names."""


class AheadError(ValueError):
    """The base of all errors of the package."""


class NoState(AheadError):
    """The value is not the number of a state of the judge."""

    def __init__(self, state):
        self.state = state


class NoInput(AheadError):
    """The value is not an input letter of the judge."""

    def __init__(self, x):
        self.x = x


class NoOutput(AheadError):
    """The value is not an output letter of the judge."""

    def __init__(self, y):
        self.y = y


class Refused(AheadError):
    """The judge refuses the output letter with this index."""

    def __init__(self, index):
        self.index = index


class NoNumber(AheadError):
    """No answer has this number."""

    def __init__(self, number):
        self.number = number


class NoAnswer(AheadError):
    """The value does not answer the inputs."""

    def __init__(self, outputs):
        self.outputs = outputs


class TooMany(AheadError):
    """There are more relations or pairs than the limit."""

    def __init__(self, limit):
        self.limit = limit


class NoRelation(AheadError):
    """No word other than () has this relation."""

    def __init__(self, relation):
        self.relation = relation


class NoWord(AheadError):
    """No word of this length has the relation."""

    def __init__(self, length):
        self.length = length


class NotLong(AheadError):
    """The value is not a long relation of the judge."""

    def __init__(self, relation):
        self.relation = relation


class NotEnough(AheadError):
    """No converter with this look-ahead is correct."""

    def __init__(self, ahead):
        self.ahead = ahead


class BadTable(AheadError):
    """The value is not a table for the judge and the look-ahead."""

    def __init__(self, table):
        self.table = table


class Won(AheadError):
    """The position of the block game is won."""


class Lost(AheadError):
    """No state that can be chosen in the block game is won."""


class BadCertificate(AheadError):
    """The value is not a certificate of the judge."""

    def __init__(self, value):
        self.value = value


class TooLarge(AheadError):
    """The judge would have more states or letters than the limit."""

    def __init__(self, limit):
        self.limit = limit


class OtherLetters(AheadError):
    """The two judges do not have equally many letters."""


class BadEntry(AheadError):
    """The value is neither None nor the number of a state."""

    def __init__(self, entry):
        self.entry = entry


class BadText(AheadError):
    """The text is wrong in the line with this index."""

    def __init__(self, line):
        self.line = line


class BadJudge(AheadError):
    """The value is not a judge."""

    def __init__(self, judge):
        self.judge = judge


class NothingToUndo(AheadError):
    """Every change was taken back already."""


class BadLine(AheadError):
    """The line has none of the forms that the desk reads."""

    def __init__(self, line):
        self.line = line


class BadWord(AheadError):
    """Some letter of the word is not an input letter of the judge."""

    def __init__(self, word):
        self.word = word


class NoConverter(AheadError):
    """No converter was begun."""
