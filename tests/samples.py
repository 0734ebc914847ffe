"""Nets, numbers and wrong things that several tests use."""

from stairlanes.counting import ends_of, turns_of

# A stair net of four lanes, written out by hand.
FOUR = (4, ((0, 1), (2, 3), (0, 3), (1, 2), (0, 1), (3, 2)), (0, 1, 3, 2))
# Forks that stand in no order of layers, lanes of a pair that fall, ends in an odd order.
ODD = (5, ((3, 1), (0, 4), (1, 0), (3, 1), (4, 2), (1, 3), (0, 4)), (2, 4, 0, 3, 1))
ONE_LANE = (1, (), (0,))
LOOSE = (3, ((2, 0),), (1, 2, 0))
BARE = (4, (), (3, 1, 0, 2))
ALIKE = (2, ((0, 1),) * 128, (1, 0))
WIDE = (16, tuple((i % 16, (i * 7 + 3 + i // 16) % 16) for i in range(128)
                  if i % 16 != (i * 7 + 3 + i // 16) % 16), tuple(range(15, -1, -1)))
NETS = (ONE_LANE, (2, ((0, 1),), (0, 1)), (2, ((1, 0), (0, 1)), (1, 0)), LOOSE, BARE, FOUR, ODD, ALIKE, WIDE)

GREAT = 10 ** 30 - 1


class Numbers:
    """Mixed numbers, the same ones in each run."""

    def __init__(self, seed):
        self.state = seed

    def below(self, bound):
        self.state = (self.state * 6364136223846793005 + 1442695040888963407) % 2 ** 64
        return (self.state >> 33) % bound

    def pick(self, row):
        return row[self.below(len(row))]

    def shuffled(self, row):
        left = list(row)
        told = []
        while left:
            told.append(left.pop(self.below(len(left))))
        return told

    def net(self, most_lanes=6, most_forks=12):
        lanes = 1 + self.below(most_lanes)
        forks = []
        if lanes > 1:
            for _ in range(self.below(most_forks + 1)):
                forks.append(tuple(self.shuffled(range(lanes))[:2]))
        return lanes, tuple(forks), tuple(self.shuffled(range(lanes)))

    def near(self, nets):
        """One of the nets with a fork left out, turned round, or put behind once more."""
        lanes, forks, ends = self.pick(nets)
        at = self.below(len(forks))
        ahead, fork, rest = forks[:at], forks[at], forks[at + 1:]
        return lanes, self.pick((ahead + rest, ahead + (fork[::-1],) + rest, forks + (fork,))), ends

    def counts(self, lanes, low, high):
        return tuple(low + self.below(high - low + 1) for _ in range(lanes))


class Plain:
    """A thing of no kind that the document names."""


class Agreeing:
    """A thing that says of all that it is like it, and yet is no number and no text."""

    def __eq__(self, other):
        return True

    def __hash__(self):
        return 0


def nested(many):
    thing = ()
    for _ in range(many - 1):
        thing = (thing,)
    return thing


def nested_list(many):
    thing = []
    for _ in range(many - 1):
        thing = [thing]
    return thing


def anything():
    """Things of many kinds; none of them is a net, a deed, a lane, a whole number from 0 on."""
    return [None, True, False, -1, -GREAT, "", "put", "0", "step", b"", b"put", (), (0,), (None,), [], [0], {},
            {0: 1}, set(), {0}, frozenset(), frozenset((0,)), range(3), Plain(), Plain, len, object(), bytearray(b"a"),
            nested(60), nested_list(60), (nested(59), nested(59), nested(59)), iter(()), ValueError("x")]


FORK = (2, ((0, 1),), (0, 1))
# A stair net for the lanes 0 and 2, not for the others.
TREE = (4, ((0, 2), (0, 1), (2, 3)), (0, 2, 1, 3))
# Even for all lanes, and yet no stair net.
CROSSED = (4, ((2, 3), (0, 1), (0, 2), (1, 3)), (0, 2, 1, 3))
# Turns of unlike forks are no fault here: pairs that aren't come to keep to themselves.
TWICE = (2, ((0, 1), (0, 1)), (0, 1))
# From one of the two pairs of its second level a ball breaks it, from the other none does.
HALF_BROKEN = (3, ((2, 0), (2, 1)), (2, 1, 0))

# The depth that a stair net of so many lanes has at the least.
LEAST = {1: 0, 2: 1, 4: 3, 8: 6, 16: 9}


def layered(lanes, many):
    """A net of so many layers alike, each of forks side by side."""
    return lanes, tuple((lane, lane + 1) for lane in range(0, lanes - 1, 2)) * many, tuple(range(lanes))


def with_ends(net, ends):
    return net[0], net[1], ends


def somes(lanes):
    """Each lane alone, all lanes, and some between."""
    told = [(lane,) for lane in range(lanes)] + [tuple(range(lanes)), tuple(range(0, lanes, 2)), tuple(range(1, lanes))]
    return sorted({some for some in told if some})


def counts_on(lanes, some, balls):
    """All counts from 0 of so many balls on some lanes, none on the others, as tuples rise."""
    if lanes == 0:
        return [()] if balls == 0 else []
    told = []
    for many in range(balls + 1 if lanes - 1 in some else 1):
        told += [counts + (many,) for counts in counts_on(lanes - 1, some, balls - many)]
    return sorted(told)


def levels_by_counts(states_of):
    """The levels, as sets, of what is come to: states_of tells all that so many balls come to, from the first on."""
    seen, told = set(), []
    while True:
        level = set(states_of(len(told))) - seen
        if not level:
            return told
        seen |= level
        told.append(level)


def places_by_counts(net, some):
    """The levels of all places, by all counts there are on these lanes."""
    def places(balls):
        for counts in counts_on(net[0], some, balls):
            ends = ends_of(net, counts)
            yield turns_of(net, counts), tuple(many - min(ends) for many in ends)
    return levels_by_counts(places)


def with_one_changed(row, place, thing):
    return row[:place] + (thing,) + row[place + 1:]


def wrong_rows(row):
    """Rows of the same numbers that are no tuple of just these: other kinds, a thing more or fewer."""
    told = [list(row), set(row), dict(enumerate(row)), str(row), iter(row), row + (0,), (0,) + row, (row,), None]
    if row:
        told += [row[1:], row[:-1], ()]
    for place, number in enumerate(row):
        for thing in (None, str(number), (number,), [number], -1, bytes(number), Agreeing(), nested(50)):
            told.append(with_one_changed(row, place, thing))
        if number in (0, 1):
            told.append(with_one_changed(row, place, bool(number)))
    return told


def wrong_books(book, wrong_states):
    """Books that no looker takes, made of one that it takes and of things that are no states."""
    told = [None, list(book), set(book), {state: True for state in book}, (book,), book + (None,), book + (book[0],),
            book[1:], (), str(book), tuple(list(state) for state in book), dict(enumerate(book)), iter(book)]
    for place in range(len(book)):
        told.append(book[:place] + book[place + 1:])
        told.append(book + (book[place],))
    for thing in wrong_states + anything():
        told += [book + (thing,), (thing,) + book, (thing,)]
    return told
