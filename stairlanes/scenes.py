"""Scenes of a weaving, and the deeds that lead from one to the next."""

from stairlanes.errors import NoDeed, NoGroup
from stairlanes.kinds import has_few_figures, is_below, is_row, is_whole, is_word
from stairlanes.nets import end_of, next_fork


def begun(net):
    """The scene ahead of all deeds."""
    lanes, forks, ends = net
    return (0,) * len(forks), (), (0,) * lanes


def is_deed(net, thing):
    """Whether it is a deed for the net, of anything, whatever groups there are."""
    if is_row(thing, 2):
        return is_word(thing[0], "step") and is_place(thing[1])
    if not is_row(thing, 3):
        return False
    word, first, second = thing
    if is_word(word, "put"):
        return is_below(first, net[0]) and is_many(second)
    return is_word(word, "join") and is_place(second) and is_below(first, second)


def is_place(thing):
    """Whether it is a whole number from 0 on."""
    return is_whole(thing) and thing >= 0


def is_many(thing):
    """Whether so many balls may be put: not 0, and of at most thirty figures."""
    return has_few_figures(thing) and thing != 0


def done(net, scene, deed):
    """The scene behind the deed."""
    if not is_deed(net, deed):
        raise NoDeed(0)
    if deed[0] == "put":
        return put_behind(net, scene, deed[1], deed[2])
    if deed[0] == "step":
        return stepped(net, scene, deed[1])
    return joined(scene, deed[1], deed[2])


def put_behind(net, scene, lane, many):
    """The scene with a new group at the lane's begin."""
    turns, groups, out = scene
    return turns, groups + ((many, lane, next_fork(net, lane, 0)),), out


def stepped(net, scene, place):
    """The scene in which the group of this place has passed its fork, or is out."""
    turns, groups, out = scene
    if place >= len(groups):
        raise NoGroup(0)
    many, lane, number = groups[place]
    if number == len(net[1]):
        left = groups[:place] + groups[place + 1:]
        return turns, left, added(out, end_of(net, lane), many)
    parts = parted(net, turns[number], many, number)
    turn = (turns[number] + many) % 2
    return given_at(turns, number, turn), groups[:place] + parts + groups[place + 1:], out


def parted(net, turn, many, number):
    """The groups into which so many balls part at the fork of this number."""
    one, other = net[1][number]
    on_one = (turn + many + 1) // 2 - turn
    parts = ((on_one, one), (many - on_one, other))
    return tuple([(part, lane, next_fork(net, lane, number + 1)) for part, lane in parts if part != 0])


def joined(scene, first, second):
    """The scene in which two groups are one, or both gone where they come to 0."""
    turns, groups, out = scene
    if second >= len(groups):
        raise NoGroup(0)
    many, lane, number = groups[first]
    more, other_lane, other_number = groups[second]
    if lane != other_lane or number != other_number:
        raise NoGroup(0)
    whole = ((many + more, lane, number),) if many + more != 0 else ()
    return turns, groups[:first] + whole + groups[first + 1:second] + groups[second + 1:], out


def given_at(row, place, value):
    """The row with this value at the place."""
    return row[:place] + (value,) + row[place + 1:]


def added(counts, place, many):
    """The counts with so many more at the place."""
    return given_at(counts, place, counts[place] + many)
