"""Lookers: what shows that a net is a stair net for some lanes, or that it isn't."""

from stairlanes.counting import ends_of
from stairlanes.kinds import are_below, are_from_nought, is_below, is_row
from stairlanes.levels import is_book
from stairlanes.stairs import is_stair
from stairlanes.verdicts import first_pair, pair_behind


def shows_stair(net, some, thing):
    """Whether it is a book of pairs that shows a stair net for these lanes, of anything."""
    return is_book(thing, lambda pair: is_pair(net, pair), first_pair(net), some,
                   lambda pair, lane: pair_behind(net, pair, lane))


def is_pair(net, thing):
    """Whether it is turns of the net and a rest by its lanes."""
    return is_row(thing, 2) and are_below(thing[0], len(net[1]), 2) and is_below(thing[1], net[0])


def shows_break(net, some, thing):
    """Whether it is counts from 0 on these lanes for which the ends are no stair, of anything."""
    if not are_from_nought(thing, net[0]):
        return False
    if any([many != 0 and lane not in some for lane, many in enumerate(thing)]):
        return False
    return not is_stair(ends_of(net, thing))
