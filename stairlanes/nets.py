"""Nets: lanes, the forks that join them, and the order of their ends."""

from stairlanes.kinds import are_below, is_below, is_row, is_whole

MOST_LANES = 16
MOST_FORKS = 128


def is_net(thing):
    """Whether it is a net, of anything."""
    if not is_row(thing, 3):
        return False
    lanes, forks, ends = thing
    if not is_whole(lanes) or not 1 <= lanes <= MOST_LANES:
        return False
    return are_forks(lanes, forks) and are_all_lanes(lanes, ends)


def are_forks(lanes, thing):
    """Whether it is a tuple of forks of so many lanes, not too many of them."""
    if not isinstance(thing, tuple) or len(thing) > MOST_FORKS:
        return False
    return all([is_fork(lanes, fork) for fork in thing])


def is_fork(lanes, thing):
    """Whether it is a pair of unlike lanes."""
    if not is_row(thing, 2):
        return False
    one, other = thing
    return is_below(one, lanes) and is_below(other, lanes) and one != other


def are_all_lanes(lanes, thing):
    """Whether it is a tuple of all lanes, each once."""
    # Sorting comes last: things of unlike kinds can't be put in order.
    return are_below(thing, lanes, lanes) and sorted(thing) == list(range(lanes))


def layers(net):
    """The layer of each fork."""
    lanes, forks, ends = net
    reached = [0] * lanes
    found = []
    for one, other in forks:
        layer = 1 + max(reached[one], reached[other])
        reached[one] = layer
        reached[other] = layer
        found.append(layer)
    return tuple(found)


def depth(net):
    """The greatest layer, 0 without forks."""
    return max(layers(net), default=0)


def on_lane(net, lane):
    """The numbers of the forks that stand on the lane."""
    return tuple([number for number, fork in enumerate(net[1]) if lane in fork])


def plain(net):
    """The net with its forks by layers, in one layer as pairs rise."""
    lanes, forks, ends = net
    return lanes, tuple([fork for layer, fork in sorted(zip(layers(net), forks))]), ends


def next_fork(net, lane, number):
    """The first fork on the lane from this number on; how many forks there are where none is left."""
    forks = net[1]
    while number < len(forks) and lane not in forks[number]:
        number += 1
    return number


def end_of(net, lane):
    """The end at which the lane comes out."""
    return net[2].index(lane)
