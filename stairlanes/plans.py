"""Plans: how a net is made, told as tuples within one another."""

from stairlanes.joining import behind, beside, doubled, renamed
from stairlanes.kinds import is_row, is_whole, is_word
from stairlanes.nets import MOST_FORKS, MOST_LANES, are_all_lanes, is_net, plain
from stairlanes.ways import merger, rounds, stairway

MOST_DEEP = 8
LEAST_K = {"stairway": 0, "rounds": 0, "merger": 1}
MOST_K = 4
LANES_TO_DOUBLE = (1, 2, 4, 8)


def is_plan(thing):
    """Whether it is a plan, of anything."""
    return size_of(thing, MOST_DEEP) is not None


def size_of(thing, deep):
    """How many lanes and forks the net of the plan has; None where it is no plan so deep at most."""
    if deep == 0 or not isinstance(thing, tuple) or len(thing) not in (2, 3):
        return None
    if is_first(thing):
        net = made_by(thing)
        return net[0], len(net[1])
    size = size_of(thing[1], deep - 1)
    if size is None:
        return None
    if len(thing) == 2:
        return doubled_size(size) if is_word(thing[0], "doubled") else None
    if is_word(thing[0], "renamed"):
        return size if are_all_lanes(size[0], thing[2]) else None
    other = size_of(thing[2], deep - 1)
    return None if other is None else joined_size(thing[0], size, other)


def is_first(thing):
    """Whether it is a plan without plans within."""
    if not is_row(thing, 2) or not isinstance(thing[0], str):
        return False
    word, stuff = thing
    if word in LEAST_K:
        return is_whole(stuff) and LEAST_K[word] <= stuff <= MOST_K
    return word == "net" and is_net(stuff)


def doubled_size(size):
    """How many lanes and forks there are where the net is doubled; None where it can't be."""
    lanes, forks = size
    if lanes not in LANES_TO_DOUBLE:
        return None
    return fitting(2 * lanes, 2 * forks + len(merger(lanes.bit_length())[1]))


def joined_size(word, one, other):
    """How many lanes and forks there are where two nets are joined by the word; None where they can't be."""
    if is_word(word, "beside"):
        return fitting(one[0] + other[0], one[1] + other[1])
    if is_word(word, "behind") and one[0] == other[0]:
        return fitting(one[0], one[1] + other[1])
    return None


def fitting(lanes, forks):
    """So many lanes and forks, where a net may have them, else None."""
    if lanes > MOST_LANES or forks > MOST_FORKS:
        return None
    return lanes, forks


def made_by(plan):
    """The plain net that the plan makes."""
    word, first = plan[:2]
    if word == "net":
        return plain(first)
    if word == "stairway":
        return stairway(first)
    if word == "rounds":
        return rounds(first)
    if word == "merger":
        return merger(first)
    net = made_by(first)
    if word == "doubled":
        return doubled(net)
    if word == "renamed":
        return renamed(net, plan[2])
    if word == "beside":
        return beside(net, made_by(plan[2]))
    return behind(net, made_by(plan[2]))
