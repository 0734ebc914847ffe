"""A looker: what bars a net from being a stair net."""

from stairlanes.bars import falls, has_no_depth, is_shallow, off_shares
from stairlanes.kinds import are_below, is_row, is_word


def shows_bar(net, thing):
    """Whether it is a bar of the net, of anything."""
    if is_row(thing, 1):
        return (is_word(thing[0], "lanes") and has_no_depth(net)) or (is_word(thing[0], "depth") and is_shallow(net))
    if is_row(thing, 2):
        return is_word(thing[0], "row") and are_below(thing[1], net[0], 2) and not falls(net, thing[1])
    return is_row(thing, 3) and is_word(thing[0], "share") and is_off_share(net, thing[1:])


def is_off_share(net, thing):
    """Whether it is a lane and an end of the net whose share bars it."""
    return are_below(thing, 2, net[0]) and thing in off_shares(net)
