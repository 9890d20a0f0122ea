"""Papers: steps that lead one row to another, and whether given answers hold."""

from undoamid.rounds import kinds_beside, is_round, root_and_power, roots_of_shares
from undoamid.rows import Row, require_same_table
from undoamid.versions import Version, form_of

# For each word of a step the number of its items, and of the syllables that it replaces.
STEPS = {"exchange": (2, 2), "melt": (2, 2), "drop": (2, 1), "split": (3, 1), "put": (3, 0)}


def is_integer(value):
    """Whether any value is an integer."""
    return isinstance(value, int) and not isinstance(value, bool)


def is_step(value):
    """Whether any value has the form of a step, as far as its word, its length and its index tell."""
    if not isinstance(value, tuple) or not value or not isinstance(value[0], str) or value[0] not in STEPS:
        return False
    size, _ = STEPS[value[0]]
    return len(value) == size and is_integer(value[1]) and value[1] >= 0


def exchanged(table, here):
    """The two syllables the other way round, or None if they are not free."""
    (kind, _), (other, _) = here
    return [here[1], here[0]] if table.free(kind, other) else None


def melted(here):
    """The one syllable for two of a kind, or None."""
    (kind, count), (other, more) = here
    return [(kind, count + more)] if kind == other else None


def instead(table, here, step):
    """What a step puts in the place of these syllables, or None if it cannot be done there."""
    if step[0] == "exchange":
        return exchanged(table, here)
    if step[0] == "melt":
        return melted(here)
    if step[0] == "drop":
        return [] if here[0][1] == 0 else None
    if step[0] == "split":
        kind, count = here[0]
        return [(kind, step[2]), (kind, count - step[2])] if is_integer(step[2]) else None
    return [(step[2], 0)] if step[2] in table.kinds else None


def step_done(table, syllables, step):
    """Do a step with a list of syllables, and return whether this can be done; any value may be the step."""
    if not is_step(step):
        return False
    at = step[1]
    _, many = STEPS[step[0]]
    if at + many > len(syllables):
        return False
    found = instead(table, syllables[at:at + many], step)
    if found is None:
        return False
    syllables[at:at + many] = found
    return True


def walked(row, value):
    """The row to which any value leads a row, as a tuple of steps, or None."""
    if not isinstance(value, tuple):
        return None
    syllables = list(row.syllables)
    for step in value:
        if not step_done(row.table, syllables, step):
            return None
    return Row(row.table, syllables)


class Walk:
    """The steps that lead a row to the form of its version, and those that lead back."""

    def __init__(self, row):
        self.syllables = list(row.syllables)
        self.steps = []
        self.backs = []
        self._table = row.table
        self._shorten()
        self._sort(form_of(row))

    def _shorten(self):
        """Melt and drop what can be, from the front on; what lies ahead of `at` is short."""
        at = 0
        while at < len(self.syllables):
            to = self._melts_with(at)
            if self.syllables[at][1] == 0:
                self._drop(at)
            elif to is None:
                at = at + 1
            else:
                self._bring(at, to + 1)
                self._melt(to)
                if self.syllables[to][1] == 0:
                    self._drop(to)
                    at = at - 1

    def _melts_with(self, at):
        """The index of the syllable ahead with which the one at an index can melt, or None."""
        kind, _ = self.syllables[at]
        for index in reversed(range(at)):
            other, _ = self.syllables[index]
            if other in self._table.stops(kind):
                return index if other == kind else None
        return None

    def _sort(self, form):
        """Bring the syllables of a short row into the order of its form."""
        for to, (kind, _) in enumerate(form):
            at = to
            while self.syllables[at][0] != kind:
                at = at + 1
            self._bring(at, to)

    def _bring(self, at, to):
        """Bring a syllable to an index ahead of it."""
        for index in reversed(range(to, at)):
            self._do(("exchange", index), ("exchange", index))

    def _melt(self, at):
        """Melt the syllables at an index and behind it."""
        self._do(("melt", at), ("split", at, self.syllables[at][1]))

    def _drop(self, at):
        """Leave out the syllable at an index."""
        self._do(("drop", at), ("put", at, self.syllables[at][0]))

    def _do(self, step, back):
        """Do a step that can be done, and keep how to come back."""
        step_done(self._table, self.syllables, step)
        self.steps.append(step)
        self.backs.append(back)


def paper(one, other):
    """A tuple of steps that lead a row to another one, or None if they are not alike."""
    require_same_table(one, other)
    there, back = Walk(one), Walk(other)
    if there.syllables != back.syllables:
        return None
    return tuple([*there.steps, *back.backs[::-1]])


def paper_holds(one, other, value):
    """Whether any value is a paper for two rows."""
    return one.table == other.table and walked(one, value) == other


def parting_holds(one, other, store, standing):
    """Whether a store keeps the table of two versions, and a standing is led apart by them."""
    if one.table != other.table or not 0 <= standing < store.size or not store.keeps(one.table):
        return False
    return store(one, standing) != store(other, standing)


def led(version, lead):
    """The form of ~lead * version * lead."""
    return form_of(~lead.row + version.row + lead.row)


def lead_holds(one, other, lead):
    """Whether the lead leads from one version to the other."""
    return led(one, lead) == other.syllables


def root_holds(version, root, power):
    """Whether these are the root of a version and its power."""
    return root_and_power(version) == (root, power)


def exchange_holds(version, lead, roots, kinds):
    """Whether these describe the versions that can be exchanged with a version."""
    turned = Version(version.table, led(version, lead))
    return is_round(turned) and roots == roots_of_shares(turned) and kinds == kinds_beside(turned)
