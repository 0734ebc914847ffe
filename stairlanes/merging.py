"""Merging nets: of two stairs, one on each half of the lanes, they make one."""

from stairlanes.balls import passed
from stairlanes.counting import ends_of
from stairlanes.levels import book_of, climbed, first_turns
from stairlanes.stairs import is_stair, stair_of

HALVES = (0, 1)


def merge_verdict(net, most):
    """The book of all knots of a merging net, or the first two totals that break it, or neither."""
    word, found = climbed(first_knot(net), (0, 0), HALVES, lambda knot, half: knot_behind(net, knot, half), most)
    if word == "whole":
        return "merges", book_of(found)
    return word, found


def merges(net, m, n):
    """Whether stairs of m and of n balls on the halves come to a stair."""
    width = net[0] // 2
    return is_stair(ends_of(net, stair_of(m, width) + stair_of(n, width)))


def first_knot(net):
    """The knot ahead of all balls."""
    return first_turns(net), 0, 0


def knot_behind(net, knot, half):
    """The knot behind the next ball of the half; None where it comes out elsewhere than at the end that is due."""
    turns, m, n = knot
    lanes = net[0]
    width = lanes // 2
    lane = m % width if half == 0 else width + n % width
    onward, end = passed(net, turns, lane)
    if end != (m + n) % lanes:
        return None
    if half == 0:
        return onward, (m + 1) % lanes, n
    return onward, m, (n + 1) % lanes
