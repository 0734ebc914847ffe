"""Balls that run through a net one at a time."""

from stairlanes.nets import end_of


def passed(net, turns, lane):
    """The turns behind a ball on the lane, and the end at which it is out."""
    return run_through(net, turns, lane, False)


def passed_back(net, turns, lane):
    """The turns behind a ball back on the lane, and the end at which it is out."""
    return run_through(net, turns, lane, True)


def run_through(net, turns, lane, back):
    """The way of one ball, or ball back, through all forks that it comes to."""
    behind = list(turns)
    here = lane
    for number, fork in enumerate(net[1]):
        if here in fork:
            turn = behind[number]
            behind[number] = 1 - turn
            # A ball back goes by the turn as changed: so it takes the way of the ball that it undoes.
            here = fork[1 - turn if back else turn]
    return tuple(behind), end_of(net, here)
