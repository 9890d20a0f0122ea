"""Parting: small stores on which two versions differ."""

from undoamid.errors import TooMany
from undoamid.rows import Row
from undoamid.shapes import Shape, kinds_of, next_of_parts, sum_over_parts
from undoamid.stores import Store
from undoamid.versions import Version, difference, form_of


def core_form(one, other):
    """The form of the core of the difference, however many syllables it has."""
    form = form_of(difference(one, other))
    for kind in sorted(set(kinds_of(form))):
        rest = form_of(Row(one.table, [syllable for syllable in form if syllable[0] != kind]))
        if rest:
            form = rest
    return form


def core(one, other):
    """What stays of the difference when each kind is left out that is not needed to have one."""
    return Version(one.table, core_form(one, other))


def least_missing(count):
    """The least integer above 1 that does not divide a count."""
    number = 2
    while count % number == 0:
        number = number + 1
    return number


def number_of_standings(table, form, most):
    """The number of count_standings for a form."""
    return sum_over_parts(table, [(kind, least_missing(count) - 1) for kind, count in form], most)


def count_standings(version, *, most=2000):
    """The sum, over all parts, of the product of the numbers of the syllables next to the part."""
    return number_of_standings(version.table, version.syllables, most)


class Ladder:
    """A store that shows how far the syllables of a form are done.

    A standing is a part, of which all is done, and how many turns of each syllable next to it are done.
    The turns of a syllable are counted modulo a number that does not divide its count. A kind leads on
    at the syllable of this kind that is next to the part; when its count is reached, it joins the part.
    It leads back out of the part, if nothing that hangs on it has begun. Otherwise it leads nowhere.
    """

    def __init__(self, table, form, most):
        self._kinds = kinds_of(form)
        self._cycles = [(least_missing(count), count % least_missing(count)) for _, count in form]
        self._nexts = next_of_parts(Shape(table, self._kinds), most)
        self._numbers = {}
        for part, nexts in self._nexts.items():
            for done in self._begun(nexts):
                self._numbers[(part, done)] = len(self._numbers)

    def _begun(self, nexts):
        """All tuples of turns that can be done of these syllables without one of them being done."""
        rows = [()]
        for at in nexts:
            size, full = self._cycles[at]
            rows = [(*row, turn) for row in rows for turn in range(size) if turn != full]
        return rows

    def store(self):
        """The store. Its standing 0 is the one at which nothing is done."""
        moves = {kind: list(range(len(self._numbers))) for kind in self._kinds}
        for (part, done), number in self._numbers.items():
            for place, at in enumerate(self._nexts[part]):
                size, full = self._cycles[at]
                turn = (done[place] + 1) % size
                move = moves[self._kinds[at]]
                if turn != full:
                    move[number] = self._turned(part, done, place, turn)
                else:
                    joined = self._joined(part, done, at)
                    move[number] = joined
                    move[joined] = self._turned(part, done, place, (full + 1) % size)
        return Store(len(self._numbers), moves)

    def _turned(self, part, done, place, turn):
        """The number of the standing with other turns of the syllable at a place."""
        return self._numbers[(part, (*done[:place], turn, *done[place + 1:]))]

    def _joined(self, part, done, at):
        """The number of the standing at which a syllable has joined the part, and those behind it have not begun."""
        grown = part | 1 << at
        turns = dict(zip(self._nexts[part], done))
        return self._numbers[(grown, tuple([turns.get(index, 0) for index in self._nexts[grown]]))]


def parted(one, other, *, most=2000):
    """A store and a standing that two versions lead to different standings, or None for equal versions."""
    form = core_form(one, other)
    if not form:
        return None
    if number_of_standings(one.table, form, most) > most:
        raise TooMany(most)
    store = Ladder(one.table, form, most).store()
    # What leads to the standing 0 by the first version, leads away from there by the difference.
    return store, store(~one.row, 0)


def parts(version):
    """Go through the parts of a version as ascending tuples of indexes, by size, then ascending."""
    shape = Shape(version.table, kinds_of(version.syllables))
    level = {(): (0, shape.firsts)}
    while level:
        for part in sorted(level):
            yield part
        level = larger_parts(shape, level)


def larger_parts(shape, level):
    """The parts with one syllable more than these; for each its bits and the indexes next to it."""
    found = {}
    for part, (bits, nexts) in level.items():
        for at in nexts:
            indexes = tuple(sorted([*part, at]))
            if indexes not in found:
                found[indexes] = (bits | 1 << at, shape.next_behind(bits, nexts, at))
    return found


def count_parts(version, *, most=2000):
    """The number of parts of a version."""
    return sum_over_parts(version.table, [(kind, 1) for kind, _ in version.syllables], most)
