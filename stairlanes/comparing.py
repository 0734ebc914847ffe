"""Nets whose forks compare what comes, instead of letting it go on by turns."""


def compared(net, row):
    """What comes to the ends where each fork lets the greater one go on on its first lane, the lesser on its second."""
    lanes, forks, ends = net
    on_lanes = list(row)
    for one, other in forks:
        greater = max(on_lanes[one], on_lanes[other])
        lesser = min(on_lanes[one], on_lanes[other])
        on_lanes[one] = greater
        on_lanes[other] = lesser
    return tuple([on_lanes[lane] for lane in ends])
