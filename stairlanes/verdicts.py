"""Verdicts: whether a net is a stair net for some lanes."""

from stairlanes.balls import passed
from stairlanes.levels import book_of, climbed, first_turns


def verdict(net, some, most):
    """The book of all pairs of a stair net for these lanes, or the first counts that break it, or neither."""
    word, found = climbed(first_pair(net), (0,) * net[0], some,
                          lambda pair, lane: pair_behind(net, pair, lane), most)
    if word == "whole":
        return "stair", book_of(found)
    return word, found


def first_pair(net):
    """The pair ahead of all balls."""
    return first_turns(net), 0


def pair_behind(net, pair, lane):
    """The pair behind a ball on the lane; None where it comes out elsewhere than at end rest."""
    turns, rest = pair
    onward, end = passed(net, turns, lane)
    if end != rest:
        return None
    return onward, (rest + 1) % net[0]
