"""Nets, numbers and wrong things that several tests use."""

# A stair net of four lanes, written out by hand.
FOUR = (4, ((0, 1), (2, 3), (0, 3), (1, 2), (0, 1), (3, 2)), (0, 1, 3, 2))
# Forks that stand in no order of layers, lanes of a pair that fall, ends in an odd order.
ODD = (5, ((3, 1), (0, 4), (1, 0), (3, 1), (4, 2), (1, 3), (0, 4)), (2, 4, 0, 3, 1))
ONE_LANE = (1, (), (0,))
LOOSE = (3, ((2, 0),), (1, 2, 0))
BARE = (4, (), (3, 1, 0, 2))
ALIKE = (2, ((0, 1),) * 128, (1, 0))
WIDE = (16, tuple((i % 16, (i * 7 + 3 + i // 16) % 16) for i in range(128)
                  if i % 16 != (i * 7 + 3 + i // 16) % 16), tuple(range(15, -1, -1)))
NETS = (ONE_LANE, (2, ((0, 1),), (0, 1)), (2, ((1, 0), (0, 1)), (1, 0)), LOOSE, BARE, FOUR, ODD, ALIKE, WIDE)

GREAT = 10 ** 30 - 1


class Numbers:
    """Mixed numbers, the same ones in each run."""

    def __init__(self, seed):
        self.state = seed

    def below(self, bound):
        self.state = (self.state * 6364136223846793005 + 1442695040888963407) % 2 ** 64
        return (self.state >> 33) % bound

    def pick(self, row):
        return row[self.below(len(row))]

    def shuffled(self, row):
        left = list(row)
        told = []
        while left:
            told.append(left.pop(self.below(len(left))))
        return told

    def net(self, most_lanes=6, most_forks=12):
        lanes = 1 + self.below(most_lanes)
        forks = []
        if lanes > 1:
            for _ in range(self.below(most_forks + 1)):
                forks.append(tuple(self.shuffled(range(lanes))[:2]))
        return lanes, tuple(forks), tuple(self.shuffled(range(lanes)))

    def counts(self, lanes, low, high):
        return tuple(low + self.below(high - low + 1) for _ in range(lanes))


class Plain:
    """A thing of no kind that the document names."""


class Agreeing:
    """A thing that says of all that it is like it, and yet is no number and no text."""

    def __eq__(self, other):
        return True

    def __hash__(self):
        return 0


def nested(many):
    thing = ()
    for _ in range(many - 1):
        thing = (thing,)
    return thing


def nested_list(many):
    thing = []
    for _ in range(many - 1):
        thing = [thing]
    return thing


def anything():
    """Things of many kinds; none of them is a net, a deed, a lane, a whole number from 0 on."""
    return [None, True, False, -1, -GREAT, "", "put", "0", "step", b"", b"put", (), (0,), (None,), [], [0], {},
            {0: 1}, set(), {0}, frozenset(), frozenset((0,)), range(3), Plain(), Plain, len, object(), bytearray(b"a"),
            nested(60), nested_list(60), (nested(59), nested(59), nested(59)), iter(()), ValueError("x")]
