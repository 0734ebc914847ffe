"""A teller: balls step through a net at any paces, and are given numbers at its ends."""

from stairlanes.errors import NoDeed
from stairlanes.kinds import is_below
from stairlanes.nets import end_of, next_fork


class Teller:
    """Balls on their way through one net."""

    def __init__(self, net):
        self.net = net
        self.settings = [0] * len(net[1])
        # Where each ball stands: its lane and the fork ahead of it; None once it is out.
        self.spots = []
        self.came = [0] * net[0]
        self.numbers = []

    def start(self, lane):
        """A new ball at the lane's begin; its place is told."""
        if not is_below(lane, self.net[0]):
            raise NoDeed(0)
        self.spots.append((lane, next_fork(self.net, lane, 0)))
        return len(self.spots) - 1

    def step(self, ball):
        """The ball passes its next fork, or comes out, and then its number is told."""
        if not is_below(ball, len(self.spots)) or self.spots[ball] is None:
            raise NoDeed(0)
        lane, number = self.spots[ball]
        if number == len(self.net[1]):
            self.spots[ball] = None
            return self.number_at(end_of(self.net, lane))
        turn = self.settings[number]
        self.settings[number] = 1 - turn
        onward = self.net[1][number][turn]
        self.spots[ball] = (onward, next_fork(self.net, onward, number + 1))
        return None

    def number_at(self, end):
        """The next number of the end, given to what comes out there."""
        number = end + self.net[0] * self.came[end]
        self.came[end] += 1
        self.numbers.append(number)
        return number

    def way(self):
        """The places of the balls on the way."""
        return tuple([ball for ball, spot in enumerate(self.spots) if spot is not None])

    def given(self):
        """The numbers given so far."""
        return tuple(sorted(self.numbers))

    def turns(self):
        """The turns of the forks as they stand."""
        return tuple(self.settings)
