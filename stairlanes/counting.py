"""What comes of counts, in whatever order their balls run."""


def ends_of(net, counts):
    """The counts of the ends."""
    on_lanes, turns = flowed(net, counts)
    return tuple([on_lanes[lane] for lane in net[2]])


def turns_of(net, counts):
    """The turns behind the counts."""
    on_lanes, turns = flowed(net, counts)
    return tuple(turns)


def flowed(net, counts):
    """The counts behind all forks, lane by lane, and the turns there."""
    on_lanes = list(counts)
    turns = []
    for one, other in net[1]:
        come = on_lanes[one] + on_lanes[other]
        on_lanes[one] = (come + 1) // 2
        on_lanes[other] = come // 2
        turns.append(come % 2)
    return on_lanes, turns
