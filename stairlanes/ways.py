"""Nets made in told ways."""

from stairlanes.nets import plain
from stairlanes.sharing import power_of_two


def merger(k):
    """The merger of the two halves of 2 to the power of k lanes."""
    row = row_of(k)
    half = len(row) // 2
    return net_of(row, merger_of(row[:half], row[half:]))


def stairway(k):
    """The stairway of 2 to the power of k lanes."""
    row = row_of(k)
    return net_of(row, stairway_of(row))


def rounds(k):
    """The round of 2 to the power of k lanes."""
    row = row_of(k)
    return net_of(row, (block_of(row) * k, row))


def tree(k):
    """The tree of 2 to the power of k lanes."""
    row = row_of(k)
    return net_of(row, tree_of(row))


def row_of(k):
    """The lanes of which there are 2 to the power of k."""
    return list(range(power_of_two(k)))


def net_of(row, made):
    """The plain net on the row of the forks and ends that were made."""
    forks, ends = made
    return plain((len(row), tuple(forks), tuple(ends)))


def merger_of(one, other):
    """The forks and ends of a merger of two rows."""
    if len(one) < 2:
        return list(zip(one, other)), one + other
    first_forks, first_ends = merger_of(one[::2], other[1::2])
    second_forks, second_ends = merger_of(one[1::2], other[::2])
    last_forks = list(zip(first_ends, second_ends))
    return first_forks + second_forks + last_forks, by_turns(first_ends, second_ends)


def stairway_of(row):
    """The forks and ends of a stairway of the row."""
    if len(row) < 2:
        return [], row
    half = len(row) // 2
    first_forks, first_ends = stairway_of(row[:half])
    second_forks, second_ends = stairway_of(row[half:])
    last_forks, ends = merger_of(first_ends, second_ends)
    return first_forks + second_forks + last_forks, ends


def block_of(row):
    """The forks of a block of the row."""
    if len(row) < 2:
        return []
    half = len(row) // 2
    return list(zip(row[:half], row[::-1])) + block_of(row[:half]) + block_of(row[half:])


def tree_of(row):
    """The forks and ends of a tree of the row."""
    if len(row) < 2:
        return [], row
    half = len(row) // 2
    first_forks, first_ends = tree_of(row[:half])
    second_forks, second_ends = tree_of(row[half:])
    return [(row[0], row[half])] + first_forks + second_forks, by_turns(first_ends, second_ends)


def by_turns(one, other):
    """The things of two rows, one of the one, then one of the other."""
    return [thing for pair in zip(one, other) for thing in pair]
