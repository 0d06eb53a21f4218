"""The refusals: each one straight under SlumberError, with just the fields that the document tells."""


class SlumberError(ValueError):
    """Any refusal."""


class NoCount(SlumberError):
    """A count, or a word in a count's stead, that may not be asked for."""


class NoKinds(SlumberError):
    """A program that has no kinds."""


class NoStep(SlumberError):
    """A step that isn't there."""


class NoPlace(SlumberError):
    """A row number that a workshop's text doesn't have."""


class BadRow(SlumberError):
    """A thing that can't be a row of a text."""


class TooMany(SlumberError):
    """More rows than a text may have."""


class NoBack(SlumberError):
    """No deed that could be taken back."""


class NoSign(SlumberError):
    """A sign of a text with which no lexeme goes on."""

    def __init__(self, place):
        self.place = place


class NoReading(SlumberError):
    """A lexeme or mark with which no whole text goes on, and all that could have stood there."""

    def __init__(self, place, wants):
        self.place = place
        self.wants = wants


class Twice(SlumberError):
    """A word that is told twice."""

    def __init__(self, later, earlier):
        self.later = later
        self.earlier = earlier


class Counts(SlumberError):
    """An equation with another count of patterns than the first one of its def."""

    def __init__(self, place):
        self.place = place


class Parts(SlumberError):
    """A pattern or a kind with another count of parts than told."""

    def __init__(self, place):
        self.place = place


class Unknown(SlumberError):
    """A word that isn't there."""

    def __init__(self, place, word):
        self.place = place
        self.word = word


class Clash(SlumberError):
    """Two kinds that can't be the same."""

    def __init__(self, place, one, other):
        self.place = place
        self.one = one
        self.other = other


class Endless(SlumberError):
    """Two kinds that only kinds without end could make the same."""

    def __init__(self, place, one, other):
        self.place = place
        self.one = one
        self.other = other


class Broken(SlumberError):
    """A workshop's text that is refused."""

    def __init__(self, wrong):
        self.wrong = wrong


class NoProgram(SlumberError):
    """A thing that is no program."""

    def __init__(self, wrong):
        self.wrong = wrong


class NoTurn(SlumberError):
    """A thing that is no turn that may be done."""

    def __init__(self, wrong):
        self.wrong = wrong


class NoAddress(SlumberError):
    """A thing that is no address."""

    def __init__(self, address):
        self.address = address


class NoName(SlumberError):
    """A name that isn't there at the top."""

    def __init__(self, name):
        self.name = name


class NoText(SlumberError):
    """A text of a core or of rows that can't be read."""

    def __init__(self, row, spot):
        self.row = row
        self.spot = spot
