"""Nets joined out of others."""

from stairlanes.nets import plain
from stairlanes.ways import merger


def behind(one, other):
    """The net in which the other's lane i is what comes at the one's end i."""
    lanes, forks, ends = one
    more_forks, more_ends = called(other, ends)
    return plain((lanes, forks + more_forks, more_ends))


def beside(one, other):
    """The net of the one's lanes, then the other's, numbered on."""
    lanes, forks, ends = one
    more_forks, more_ends = called(other, list(range(lanes, lanes + other[0])))
    return plain((lanes + other[0], forks + more_forks, ends + more_ends))


def doubled(net):
    """The net beside itself, and a merger behind."""
    # Of 2 to the power of k lanes the number has k + 1 bits, as many as the merger of twice the lanes is called by.
    return behind(beside(net, net), merger(net[0].bit_length()))


def renamed(net, p):
    """The net in which lane i is called p[i]."""
    forks, ends = called(net, p)
    return plain((net[0], forks, ends))


def called(net, names):
    """The forks and the ends of the net, each lane called by its name."""
    lanes, forks, ends = net
    return tuple([(names[one], names[other]) for one, other in forks]), tuple([names[lane] for lane in ends])
