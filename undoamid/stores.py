"""Stores: standings, and the moves by which deeds lead from one to another."""

from undoamid.errors import InvalidStore
from undoamid.words import is_name


def check_moves(size, moves):
    """Raise InvalidStore for the first violation, by ascending keys."""
    for kind in sorted(moves):
        if not is_name(kind):
            raise InvalidStore("name", kind)
        if sorted(moves[kind]) != list(range(size)):
            raise InvalidStore("move", kind)


def cycles_of(move):
    """For each standing the cycle through which a move leads it, and its place there."""
    found = {}
    for start in range(len(move)):
        if start in found:
            continue
        cycle = [start]
        while move[cycle[-1]] != start:
            cycle.append(move[cycle[-1]])
        for place, standing in enumerate(cycle):
            found[standing] = (cycle, place)
    return found


class Store:
    """So many standings, and moves that are permutations of them."""

    def __init__(self, size, moves):
        check_moves(size, moves)
        self.size = size
        self._moves = {kind: tuple(moves[kind]) for kind in sorted(moves)}
        self._cycles = {kind: cycles_of(move) for kind, move in self._moves.items()}

    @property
    def moves(self):
        """A new dict from kinds to moves."""
        return {kind: move for kind, move in self._moves.items()}

    def clash(self, table):
        """The first free pair whose moves do not commute, with the least standing that shows it, or None."""
        for one, other in table.pairs:
            if one in self._moves and other in self._moves:
                first, second = self._moves[one], self._moves[other]
                for standing in range(self.size):
                    if second[first[standing]] != first[second[standing]]:
                        return (one, other, standing)
        return None

    def keeps(self, table):
        """Whether the moves of each two free kinds of a table commute."""
        return self.clash(table) is None

    def __call__(self, row, standing):
        for kind, count in row.syllables:
            if kind in self._cycles:
                cycle, place = self._cycles[kind][standing]
                standing = cycle[(place + count) % len(cycle)]
        return standing

    def __eq__(self, other):
        return isinstance(other, Store) and self.size == other.size and self._moves == other._moves
