"""Levels: what is come to by balls one by one, told apart by how many balls come first to it."""

from stairlanes.scenes import added


def first_turns(net):
    """The turns ahead of all balls."""
    return (0,) * len(net[1])


def climbed(first, counts, moves, led, most):
    """What the levels from the first state on show: ("open", None), ("breaks", counts) or ("whole", levels).

    A state is led on by each move, to None where the ball comes out elsewhere than it ought to. Each level is a dict
    of its states, with the first counts, as tuples rise, of so few balls that come to them.
    """
    level = {first: counts}
    levels = []
    seen = {}
    while level:
        seen.update(level)
        # A level that breaks is counted whole, so this is asked ahead of whether it breaks.
        if len(seen) > most:
            return "open", None
        levels.append(level)
        level, faults = next_level(level, seen, moves, led)
        if faults:
            return "breaks", min(faults)
    return "whole", levels


def next_level(level, seen, moves, led):
    """The states one ball further that weren't seen, with their counts; and the counts of balls that break."""
    onward = {}
    faults = []
    for state, counts in level.items():
        for move in moves:
            there = led(state, move)
            if there in seen:
                continue
            more = added(counts, move, 1)
            if there is None:
                faults.append(more)
            else:
                # Each way to a new state by so few balls comes out of this level, so the least of them is met here.
                onward[there] = min(more, onward.get(there, more))
    return onward, faults


def book_of(levels):
    """All states, level by level, in each as tuples rise."""
    return tuple([state for level in levels for state in sorted(level)])


def is_book(thing, is_state, first, moves, led):
    """Whether it is a tuple of unlike states, the first among them, that each move leads from one to another."""
    # Nothing is looked up ahead of its form: there are things that no dict takes.
    if not isinstance(thing, tuple) or not all([is_state(state) for state in thing]):
        return False
    known = {state: True for state in thing}
    if len(known) != len(thing) or first not in known:
        return False
    return all([led(state, move) in known for state in thing for move in moves])
