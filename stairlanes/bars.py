"""Bars: what shows at once that a net is no stair net."""

from stairlanes.comparing import compared
from stairlanes.nets import depth
from stairlanes.sharing import power_of_two, shares

LEAST_DEPTHS = {1: 0, 2: 1, 4: 3, 8: 6, 16: 9}
MOST_LANES_FOR_ROWS = 8


def least_depth(lanes):
    """The depth that a stair net of so many lanes has at the least; None where there is no such net."""
    return LEAST_DEPTHS.get(lanes)


def bar(net):
    """The first bar of the net: its lanes, its depth, a share, a row; None where there is none."""
    if has_no_depth(net):
        return ("lanes",)
    if is_shallow(net):
        return ("depth",)
    uneven_shares = off_shares(net)
    if uneven_shares:
        lane, end = uneven_shares[0]
        return "share", lane, end
    row = first_row(net)
    if row is not None:
        return "row", row
    return None


def has_no_depth(net):
    """Whether no depth is enough for a stair net of so many lanes."""
    return least_depth(net[0]) is None


def is_shallow(net):
    """Whether the net is less deep than a stair net of so many lanes."""
    least = least_depth(net[0])
    return least is not None and depth(net) < least


def off_shares(net):
    """The pairs of a lane and an end, rising, whose share isn't just the end's part of what comes."""
    balls = power_of_two(depth(net))
    return [(lane, end) for lane, share in enumerate(shares(net)) for end, many in enumerate(share)
            if net[0] * many != balls]


def first_row(net):
    """The first row of noughts and ones, as tuples rise, that doesn't fall at the ends, or None."""
    # Each lane more doubles the rows: of many lanes there are too many to go through.
    if net[0] > MOST_LANES_FOR_ROWS:
        return None
    for row in rows_of(net[0]):
        if not falls(net, row):
            return row
    return None


def rows_of(lanes):
    """All rows of noughts and ones, as tuples rise."""
    rows = [()]
    for lane in range(lanes):
        rows = [row + (number,) for row in rows for number in (0, 1)]
    return rows


def falls(net, row):
    """Whether the row, compared, nowhere rises from one end to the next."""
    told = list(compared(net, row))
    return told == sorted(told, reverse=True)
