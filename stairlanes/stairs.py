"""Stairs: counts that fall by one at most, over all of them."""


def is_stair(counts):
    """Whether of each two the one ahead is as great, or one greater."""
    # There is one stair of each total: counts are one just where they are this one.
    return counts == stair_of(sum(counts), len(counts))


def stair_of(total, many):
    """The one stair of so many counts that come to the total together."""
    # Each takes its part of what the ones ahead of it left, rounded up.
    return tuple([(total - place + many - 1) // many for place in range(many)])


def spread_of(counts):
    """The greatest count less the least."""
    return max(counts) - min(counts)
