"""Houses: branches with their rows, changes that can be undone, and stores that go along."""

from undoamid.amends import amends_between
from undoamid.errors import Clash, InvalidCommand, OtherTable, Taken, TooMany, UnknownBranch
from undoamid.merging import joined, together
from undoamid.rows import Row
from undoamid.versions import Version
from undoamid.words import is_name

MOST_BRANCHES = 8
FIRST = "main"


class Trial:
    """A block behind which a house is as it was ahead of it."""

    def __init__(self, house):
        self.house = house

    def __enter__(self):
        house = self.house
        self.table = house.table
        self.current = house.current
        self.names = house.names
        self.row = house.row
        self.version = house.version
        self.stores = house.stores
        self.rows = house._rows
        self.attached = house._attached
        self.done = house._done
        return house

    def __exit__(self, kind, value, trace):
        house = self.house
        house.table = self.table
        house.current = self.current
        house.names = self.names
        house.row = self.row
        house.version = self.version
        house.stores = self.stores
        house._rows = self.rows
        house._attached = self.attached
        house._done = self.done


class House:
    """Branches, each with a name and a row as it was told; one of them is the current one.

    The dicts and the list that a house keeps are replaced by new ones and never changed, so that a trial,
    or what is to be undone, can keep them as they were.
    """

    def __init__(self, table):
        self.table = table
        self.current = FIRST
        self.names = (FIRST,)
        self.row = Row(table)
        self.version = Version(table)
        self.stores = ()
        self._rows = {FIRST: self.row}
        self._attached = {}
        # For each change that was not taken back, what was told and what was there ahead of it.
        self._done = []

    def do(self, kind, count=1):
        """Put a syllable at the end of the row."""
        return self._replace(("do", kind, count), self.row + Row(self.table, [(kind, count)]))

    def take_out(self, at):
        """Take a syllable out of the row."""
        return self._replace(("take_out", at), self.row.without(at))

    def move(self, at, to):
        """Move a syllable of the row."""
        return self._replace(("move", at, to), self.row.moved(at, to))

    def shorten(self):
        """Replace the row by the form of its version."""
        return self._replace(("shorten",), self.version.row)

    def branch(self, name):
        """Make a new branch with the current row, and go to it."""
        if not is_name(name):
            raise InvalidCommand()
        if name in self._rows:
            raise Taken(name)
        if len(self._rows) == MOST_BRANCHES:
            raise TooMany(MOST_BRANCHES)
        return self._change(("branch", name), self.table, {**self._rows, name: self.row}, name)

    def go(self, name):
        """Go to a branch."""
        self._require_branch(name)
        return self._change(("go", name), self.table, self._rows, name)

    def drop(self, name):
        """Remove a branch."""
        self._require_branch(name)
        if name == self.current:
            raise Taken(name)
        rows = {other: row for other, row in self._rows.items() if other != name}
        return self._change(("drop", name), self.table, rows, self.current)

    def merge(self, name):
        """Add what another branch has beyond the common beginning; what both have is done once."""
        other = Version.of(self[name])
        amends = amends_between(self.version, joined(self.version & other, self.version, other))
        return self._replace(("merge", name), self.row + amends.row)

    def together(self, name):
        """Add what another branch has beyond the common beginning, where the order does not matter."""
        other = Version.of(self[name])
        amends = amends_between(self.version, together(self.version & other, self.version, other))
        return self._replace(("together", name), self.row + amends.row)

    def lay(self, name):
        """Put what the current branch has beyond the common beginning behind the row of another branch."""
        row = self[name]
        rest = amends_between(self.version & Version.of(row), self.version)
        return self._replace(("lay", name), row + rest.row)

    def change(self, table):
        """Keep another table with the same kinds."""
        if self.table.kinds != table.kinds:
            raise OtherTable()
        self._require_kept(table)
        rows = {name: row.under(table) for name, row in self._rows.items()}
        return self._change(("change", table), table, rows, self.current)

    def undo(self):
        """Take back the last change that was not taken back."""
        if not self._done:
            return None
        _, (table, rows, current) = self._done[-1]
        self._require_kept(table)
        amends = self._come_to(table, rows, current)
        self._done = self._done[:-1]
        return amends

    def attach(self, name, store, standing):
        """Attach a store at the standing at which the empty row stands."""
        if not is_name(name):
            raise InvalidCommand()
        if name in self._attached:
            raise Taken(name)
        if not store.keeps(self.table):
            raise Clash(None)
        self._attached = {**self._attached, name: (store, standing)}
        self.stores = tuple(sorted(self._attached))

    def standing(self, name):
        """Where an attached store stands."""
        if name not in self._attached:
            raise UnknownBranch(name)
        store, start = self._attached[name]
        return store(self.row, start)

    def log(self):
        """The changes that were not taken back, as tuples of the name of the method and all its arguments."""
        return [told for told, _ in self._done]

    def trial(self):
        """A block behind which the house is as it was ahead of it."""
        return Trial(self)

    def tried(self, steps):
        """What changes return that are told as in the log, done one by one in a block."""
        with self.trial():
            found = [self._do(step) for step in steps]
        return tuple(found)

    def within(self, work):
        """What a function of the house returns, called in a block."""
        with self.trial():
            found = work(self)
        return found

    def _do(self, step):
        """Do a change that is told as in the log, or an undo."""
        name, *arguments = step
        changes = {
            "do": self.do, "take_out": self.take_out, "move": self.move, "shorten": self.shorten,
            "branch": self.branch, "go": self.go, "drop": self.drop, "merge": self.merge,
            "together": self.together, "lay": self.lay, "change": self.change, "undo": self.undo,
        }
        change = changes[name]
        return change(*arguments)

    def _replace(self, told, row):
        """Change the row of the current branch."""
        return self._change(told, self.table, {**self._rows, self.current: row}, self.current)

    def _change(self, told, table, rows, current):
        """Come to these branches by a change, and keep it with what was there ahead of it."""
        before = (self.table, self._rows, self.current)
        amends = self._come_to(table, rows, current)
        self._done = [*self._done, (told, before)]
        return amends

    def _come_to(self, table, rows, current):
        """Keep this table, these branches and this current one, and return the amends."""
        version = Version.of(rows[current])
        # A change of the table alone leads from no version to another one.
        amends = amends_between(self.version, version) if self.table == table else Version(table)
        self.table = table
        self.current = current
        self.names = tuple(sorted(rows))
        self.row = rows[current]
        self.version = version
        self._rows = rows
        return amends

    def _require_branch(self, name):
        """Raise UnknownBranch if there is no branch with this name."""
        if name not in self._rows:
            raise UnknownBranch(name)

    def _require_kept(self, table):
        """Raise Clash if an attached store does not keep a table."""
        # All of them keep the table of the house.
        if table != self.table and not all([store.keeps(table) for store, _ in self._attached.values()]):
            raise Clash(None)

    def __getitem__(self, name):
        self._require_branch(name)
        return self._rows[name]

    def __iter__(self):
        raise TypeError("a house is not iterated over, its names are")

    def __contains__(self, name):
        return name in self._rows

    def __len__(self):
        return len(self.names)

    def __eq__(self, other):
        return (
            isinstance(other, House) and self.table == other.table and self.current == other.current
            and self._rows == other._rows
        )
