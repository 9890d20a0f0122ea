"""Counting: how many versions of a table there are."""

from math import comb


def free_sets(table):
    """How many sets of so many kinds there are that are pairwise free, from no kinds on."""
    # Each set is told by the kinds behind all of its kinds that are free with them.
    behind = {}
    for at, kind in enumerate(table.kinds):
        behind[kind] = [other for other in table.kinds[at + 1:] if table.free(kind, other)]
    found = []
    level = [table.kinds]
    while level:
        found.append(len(level))
        level = [[other for other in more if other in behind[kind]] for more in level for kind in more]
    return tuple(found)


def multiplied_out(numbers, degree):
    """The coefficients of the sum, over all k, of numbers[k] * x ** k * (1 + x) ** (degree - k)."""
    found = [0 for _ in range(degree + 1)]
    for low, number in enumerate(numbers):
        for more in range(degree - low + 1):
            found[low + more] = found[low + more] + number * comb(degree - low, more)
    return found


def counts_up_to(table, turns):
    """The numbers of versions with 0, 1, .. turns."""
    # The series of these numbers is 1 / f(-2 * x / (1 + x)), where f has the coefficients of free_sets.
    # Multiplied by a power of 1 + x, it is a quotient of two polynomials: above / below.
    numbers = []
    factor = 1
    for number in free_sets(table):
        numbers.append(number * factor)
        factor = factor * -2
    degree = len(numbers) - 1
    above = multiplied_out([1], degree)
    below = multiplied_out(numbers, degree)
    found = []
    for turn in range(turns + 1):
        number = above[turn] if turn <= degree else 0
        for back in range(1, min(turn, degree) + 1):
            number = number - below[back] * found[turn - back]
        found.append(number)
    return found


def count_versions(table, turns):
    """The number of versions of a table with exactly so many turns."""
    return counts_up_to(table, turns)[turns]


def count_within(table, turns):
    """The number of versions of a table with at most so many turns."""
    return sum(counts_up_to(table, turns))
