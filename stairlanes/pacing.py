"""Paces: balls that start at told moments and run each at its own pace."""

from stairlanes.kinds import has_few_figures, is_below, is_row
from stairlanes.tellers import Teller

MOST_RUNS = 60


def are_runs(net, thing):
    """Whether it is runs for the net, of anything."""
    if not isinstance(thing, tuple) or len(thing) > MOST_RUNS:
        return False
    return all([is_run(net, run) for run in thing])


def is_run(net, thing):
    """Whether it is a lane, a start and a pace."""
    if not is_row(thing, 3):
        return False
    lane, start, pace = thing
    return is_below(lane, net[0]) and is_figured_from(start, 0) and is_figured_from(pace, 1)


def is_figured_from(thing, least):
    """Whether it is a whole number of at most thirty figures, the least or greater."""
    return has_few_figures(thing) and thing >= least


def ran(net, runs):
    """For each ball its number, its end and the moment at which it is out."""
    teller = Teller(net)
    # When each ball that is on its way comes to its next fork, or is out.
    due = {}
    for lane, start, pace in runs:
        due[teller.start(lane)] = start
    told = [None] * len(runs)
    while due:
        # Of what falls on one moment the least place is first.
        moment, ball = min([(when, place) for place, when in due.items()])
        number = teller.step(ball)
        if number is None:
            due[ball] = moment + runs[ball][2]
        else:
            told[ball] = (number, number % net[0], moment)
            del due[ball]
    return tuple(told)


def crossed(net, runs):
    """The pairs of balls of which the one was out ahead of the other's start, and has the greater number."""
    told = ran(net, runs)
    return tuple([(i, j) for i, (number, end, moment) in enumerate(told) for j, run in enumerate(runs)
                  if moment < run[1] and number > told[j][0]])
