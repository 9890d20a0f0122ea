"""The errors that the package raises."""


class UndoError(ValueError):
    """The base class of the errors, but for those about unknown names."""


class InvalidTable(UndoError):
    """Kinds or free pairs that do not make a table: what is wrong, and at which index."""

    def __init__(self, word, at):
        self.word = word
        self.at = at


class InvalidText(UndoError):
    """A text that does not have the described form, and the index of the line or word that shows it."""

    def __init__(self, at):
        self.at = at


class InvalidStore(UndoError):
    """Moves that do not make a store: what is wrong, and for which kind."""

    def __init__(self, word, kind):
        self.word = word
        self.kind = kind


class OtherTable(UndoError):
    """Two values are over different tables."""


class NoDeed(UndoError):
    """An index at which there is nothing."""

    def __init__(self, at):
        self.at = at


class NotShort(UndoError):
    """A row that is not short, and the index up to which it shows this."""

    def __init__(self, at):
        self.at = at


class TooMany(UndoError):
    """More of something than the given number that is allowed."""

    def __init__(self, count):
        self.count = count


class Barred(UndoError):
    """Two syllables that cannot stand beside each other."""

    def __init__(self, one, other):
        self.one = one
        self.other = other


class Clash(UndoError):
    """What cannot be put together, and the version by which the two orders differ."""

    def __init__(self, version):
        self.version = version


class Taken(UndoError):
    """A name that is in use."""

    def __init__(self, name):
        self.name = name


class InvalidCommand(UndoError):
    """A command that does not have one of the described forms."""


class UnknownKind(KeyError):
    """A name that is not a kind of the table."""

    def __init__(self, name):
        self.name = name


class UnknownBranch(KeyError):
    """A name that no branch, or no attached store, has."""

    def __init__(self, name):
        self.name = name
