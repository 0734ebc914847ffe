"""A looker: what shows that a net merges."""

from stairlanes.kinds import are_below, is_row
from stairlanes.levels import is_book
from stairlanes.merging import HALVES, first_knot, knot_behind


def shows_merge(net, thing):
    """Whether it is a book of knots that shows that the net merges, of anything."""
    return is_book(thing, lambda knot: is_knot(net, knot), first_knot(net), HALVES,
                   lambda knot, half: knot_behind(net, knot, half))


def is_knot(net, thing):
    """Whether it is turns of the net and two rests by its lanes."""
    return is_row(thing, 3) and are_below(thing[0], len(net[1]), 2) and are_below(thing[1:], 2, net[0])
