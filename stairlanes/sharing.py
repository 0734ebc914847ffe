"""Shares: how what comes on one lane is spread over the ends."""

from stairlanes.counting import ends_of
from stairlanes.nets import depth


def shares(net):
    """For each lane, how many of 2 to the power of depth balls on it alone come out at each end."""
    lanes = net[0]
    balls = power_of_two(depth(net))
    return tuple([ends_of(net, alone(lanes, lane, balls)) for lane in range(lanes)])


def power_of_two(many):
    """Two times two, so many times."""
    power = 1
    for doubling in range(many):
        power *= 2
    return power


def alone(lanes, lane, many):
    """Counts of so many balls on this lane and none on the others."""
    counts = [0] * lanes
    counts[lane] = many
    return tuple(counts)


def is_even(net, some):
    """Whether each of these lanes has the same share at all ends."""
    return uneven(net, some) is None


def uneven(net, some):
    """The first lane of these with its first two ends that have unlike shares; None where the net is even."""
    told = shares(net)
    for lane in some:
        pair = unlike_pair(told[lane])
        if pair is not None:
            return lane, pair[0], pair[1]
    return None


def unlike_pair(share):
    """The least pair of ends that have unlike shares, or None."""
    for one in range(len(share)):
        for other in range(one + 1, len(share)):
            if share[one] != share[other]:
                return one, other
    return None
