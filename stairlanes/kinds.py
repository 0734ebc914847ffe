"""What kind of thing was handed in, asked of anything."""


def is_whole(thing):
    """Whether it is a whole number; a truth is an int to Python, but no number here."""
    return isinstance(thing, int) and not isinstance(thing, bool)


def is_below(thing, bound):
    """Whether it is a whole number from 0 on and below the bound."""
    return is_whole(thing) and 0 <= thing < bound


def has_few_figures(thing):
    """Whether it is a whole number of at most thirty figures."""
    return is_whole(thing) and abs(thing) < 10 ** 30


def is_word(thing, word):
    """Whether it is this text."""
    return isinstance(thing, str) and thing == word


def is_row(thing, many):
    """Whether it is a tuple of so many things."""
    return isinstance(thing, tuple) and len(thing) == many


def are_below(thing, many, bound):
    """Whether it is a tuple of so many whole numbers from 0 on and below the bound."""
    return is_row(thing, many) and all([is_below(number, bound) for number in thing])


def are_from_nought(thing, many):
    """Whether it is a tuple of so many whole numbers from 0 on."""
    return is_row(thing, many) and all([is_whole(number) and number >= 0 for number in thing])
