"""Weavings: rows of deeds, done one behind another."""

from stairlanes.errors import NoDeed, NoGroup
from stairlanes.scenes import begun, done, is_deed


def woven(net, deeds):
    """The scene behind all deeds."""
    scene = begun(net)
    for place, deed in enumerate(deeds):
        scene = done_at(net, scene, deed, place)
    return scene


def done_at(net, scene, deed, place):
    """The scene behind the deed; a refusal tells the deed's own place in its row."""
    try:
        return done(net, scene, deed)
    except NoDeed:
        raise NoDeed(place) from None
    except NoGroup:
        raise NoGroup(place) from None


def is_still(scene):
    """Whether no group is left."""
    return len(scene[1]) == 0


def put_in(net, deeds):
    """The counts that the puts among the deeds put on the lanes."""
    counts = [0] * net[0]
    for deed in deeds:
        if is_deed(net, deed) and deed[0] == "put":
            counts[deed[1]] += deed[2]
    return tuple(counts)
