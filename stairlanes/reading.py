"""Nets and counts read out of texts."""

from stairlanes.errors import NoText
from stairlanes.nets import MOST_FORKS, MOST_LANES, are_all_lanes, is_fork

FIGURES = "0123456789"
MOST_FIGURES = 30


def read_net(text):
    """The net that is so written, of anything."""
    if not isinstance(text, str):
        raise NoText(0)
    rows = text.split("\n")
    lanes = lanes_in(rows[0])
    if lanes is None:
        raise NoText(0)
    forks = forks_in(lanes, rows[1:])
    last = 1 + len(forks)
    # The rows that may be forks are over: the next one is the ends, or at fault, and so is what stands behind the ends.
    ends = ends_in(lanes, rows[last]) if last < len(rows) else None
    if ends is None:
        raise NoText(last)
    if last + 1 < len(rows):
        raise NoText(last + 1)
    return lanes, tuple(forks), ends


def lanes_in(row):
    """How many lanes the row tells; None where it isn't such a row."""
    word, *rest = row.split(" ")
    if word != "lanes" or len(rest) != 1:
        return None
    lanes = number_in(rest[0])
    if lanes is None or not 1 <= lanes <= MOST_LANES:
        return None
    return lanes


def forks_in(lanes, rows):
    """The forks that the rows tell, up to the first row that tells none, or as many as a net may have."""
    forks = []
    for row in rows[:MOST_FORKS]:
        fork = numbers_in(row.split(" "))
        if not is_fork(lanes, fork):
            break
        forks.append(fork)
    return forks


def ends_in(lanes, row):
    """The ends that the row tells; None where it isn't such a row."""
    word, *rest = row.split(" ")
    ends = numbers_in(rest)
    if word != "ends" or not are_all_lanes(lanes, ends):
        return None
    return ends


def read_counts(text):
    """The counts that are so written, of anything."""
    if not isinstance(text, str):
        raise NoText(0)
    counts = numbers_in(text.split(","))
    if None in counts:
        raise NoText(0)
    return counts


def numbers_in(words):
    """The number of each word, None of one that is no number."""
    return tuple([number_in(word) for word in words])


def number_in(word):
    """The whole number that is so written; None where none is."""
    figures = word[1:] if word.startswith("-") else word
    if not 1 <= len(figures) <= MOST_FIGURES or not all([sign in FIGURES for sign in figures]):
        return None
    # This bars -0 as well as noughts ahead of other figures.
    if figures.startswith("0") and word != "0":
        return None
    return int(word)
