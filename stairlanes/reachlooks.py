"""A looker: what shows that the ends of a net come no farther apart than told."""

from stairlanes.kinds import are_below, are_from_nought, is_row
from stairlanes.levels import is_book
from stairlanes.reaching import first_place, place_behind


def shows_reach(net, some, far, thing):
    """Whether it is a book of places that shows that no heights come above far, of anything."""
    return is_book(thing, lambda place: is_low_place(net, far, place), first_place(net), some,
                   lambda place, lane: place_behind(net, place, lane))


def is_low_place(net, far, thing):
    """Whether it is turns of the net and heights, none of them above far."""
    if not is_row(thing, 2) or not are_below(thing[0], len(net[1]), 2):
        return False
    heights = thing[1]
    return are_from_nought(heights, net[0]) and min(heights) == 0 and max(heights) <= far
