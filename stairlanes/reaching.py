"""How far apart the ends of a net that is even for some lanes come."""

from stairlanes.balls import passed
from stairlanes.errors import NotEven
from stairlanes.levels import climbed, first_turns
from stairlanes.scenes import added
from stairlanes.sharing import is_even


def reach(net, some, most):
    """The greatest spread of the ends for counts on these lanes, with the first counts that have it; or neither."""
    if not is_even(net, some):
        raise NotEven("the net isn't even for these lanes")
    word, found = climbed(first_place(net), (0,) * net[0], some,
                          lambda place, lane: place_behind(net, place, lane), most)
    if word == "open":
        return "open", None
    far, counts = farthest(found)
    return "reach", far, counts


def first_place(net):
    """The place ahead of all balls."""
    return first_turns(net), (0,) * net[0]


def place_behind(net, place, lane):
    """The place behind a ball on the lane."""
    turns, heights = place
    onward, end = passed(net, turns, lane)
    more = added(heights, end, 1)
    least = min(more)
    return onward, tuple([height - least for height in more])


def farthest(levels):
    """The greatest height of all, and of the counts with it those of the fewest balls, the first as tuples rise."""
    # A lesser height sorts behind a greater one, as each is turned below 0.
    turned, balls, counts = min([(-max(place[1]), balls, counts) for balls, level in enumerate(levels)
                                 for place, counts in level.items()])
    return -turned, counts
