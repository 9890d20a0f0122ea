"""The desk: commands for a house, as texts."""

from undoamid.between import count_between
from undoamid.errors import InvalidCommand
from undoamid.houses import House
from undoamid.parting import core
from undoamid.rounds import root_and_power
from undoamid.rows import Row
from undoamid.tables import Table
from undoamid.versions import Version
from undoamid.words import is_name, number_of, text_of_number

# For each first word the lists of what may follow it, word by word.
FORMS = {
    "do": (("name",), ("name", "number")),
    "out": (("number",),),
    "move": (("number", "number"),),
    "shorten": ((),),
    "branch": (("name",),),
    "go": (("name",),),
    "drop": (("name",),),
    "merge": (("name",),),
    "together": (("name",),),
    "lay": (("name",),),
    "undo": ((),),
    "row": ((),),
    "form": ((),),
    "root": ((),),
    "count": ((),),
}
# Behind these first words, all that follows is one text.
TEXTS = ("table", "alike")


def argument_of(sort, word):
    """The name or number that a word tells, or None."""
    if sort == "name":
        return word if is_name(word) else None
    return number_of(word)


def arguments_of(first, words):
    """The arguments that words behind a first word tell; raises InvalidCommand if they do not fit."""
    if first in TEXTS and words:
        return [" ".join(words)]
    for form in FORMS.get(first, ()):
        if len(form) == len(words):
            found = [argument_of(sort, word) for sort, word in zip(form, words)]
            if all([argument is not None for argument in found]):
                return found
    raise InvalidCommand()


def read_command(command):
    """The first word of a command and its arguments; raises InvalidCommand for any other value."""
    if not isinstance(command, str) or "\n" in command:
        raise InvalidCommand()
    words = command.split(" ")
    if "" in words:
        raise InvalidCommand()
    return words[0], arguments_of(words[0], words[1:])


def text_of_row(house):
    """The text of the current row."""
    return str(house.row)


def text_of_form(house):
    """The text of the current version."""
    return str(house.version)


def text_of_root(house):
    """The power and the root of the current version."""
    base, power = root_and_power(house.version)
    return f"{text_of_number(power)} {str(base)}"


def text_of_count(house):
    """The number of versions between the empty and the current version."""
    return text_of_number(count_between(Version(house.table), house.version))


def text_of_alike(house, text):
    """Whether this is the text of a row of the current version, or how the two are parted."""
    rest = core(house.version, Version.of(Row.read(house.table, text)))
    if not rest:
        return "alike"
    return f"parted {len(rest)} {text_of_number(rest.turns)}"


QUESTIONS = {
    "row": text_of_row, "form": text_of_form, "root": text_of_root, "count": text_of_count, "alike": text_of_alike,
}


def changed(house, word, arguments):
    """Do a change of a house, and return the text of the amends."""
    changes = {
        "do": house.do, "out": house.take_out, "move": house.move, "shorten": house.shorten,
        "branch": house.branch, "go": house.go, "drop": house.drop, "merge": house.merge,
        "together": house.together, "lay": house.lay, "undo": house.undo,
    }
    change = changes[word]
    amends = change(*arguments)
    return "nothing" if amends is None else str(amends)


class Desk:
    """A house, at first none, and what is said of it."""

    def __init__(self):
        self._house = None

    def say(self, command):
        """Do a command and return its text."""
        word, arguments = read_command(command)
        if word == "table":
            return self._new_house(arguments[0])
        if self._house is None:
            raise InvalidCommand()
        if word in QUESTIONS:
            answer = QUESTIONS[word]
            return answer(self._house, *arguments)
        return changed(self._house, word, arguments)

    def _new_house(self, text):
        """Keep a new house with the table of a text."""
        table = Table.read(text.replace(" ; ", "\n"))
        self._house = House(table)
        return f"table of {len(table)} kinds"

    def __len__(self):
        if self._house is None:
            return 0
        return len(self._house)
