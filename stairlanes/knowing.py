"""What is known of a net by its plan alone."""

from stairlanes.plans import made_by


def known_by(plan):
    """Whether the plan tells a stair net ("stair"), two beside one another ("halves"), a merging net ("merges")."""
    word, first = plan[:2]
    if word == "net":
        return "stair" if first[0] == 1 else None
    if word in ("stairway", "rounds"):
        return "stair"
    if word == "merger":
        return "stair" if first == 1 else "merges"
    if word == "beside":
        return known_beside(first, plan[2])
    if word == "behind":
        return known_behind(first, plan[2])
    known = known_by(first)
    # Other names of lanes leave the ends as they are, but what merges hangs on which lanes are its halves.
    if known == "stair" or (known == "halves" and word == "renamed"):
        return known
    return None


def known_beside(one, other):
    """What is known of the nets of two plans beside one another."""
    if known_by(one) != "stair" or known_by(other) != "stair":
        return None
    return "halves" if made_by(one)[0] == made_by(other)[0] else None


def known_behind(one, other):
    """What is known of the net of the other plan behind that of the one."""
    known = known_by(other)
    if known == "stair" or (known == "merges" and known_by(one) == "halves"):
        return "stair"
    return None
