"""Nets and counts written as texts."""


def show_net(net):
    """The net's text: its lanes, a row for each fork, its ends."""
    lanes, forks, ends = net
    rows = [f"lanes {lanes}"] + [f"{one} {other}" for one, other in forks]
    rows.append(" ".join(["ends"] + [str(lane) for lane in ends]))
    return "\n".join(rows)


def show_counts(counts):
    """The counts' text."""
    return ",".join([str(many) for many in counts])
