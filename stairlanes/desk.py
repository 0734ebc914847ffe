"""A desk: one net and one weaving, asked by lines of words."""

from stairlanes.bars import bar
from stairlanes.counting import ends_of
from stairlanes.errors import NoLine, NoText, NotEven
from stairlanes.kinds import is_below
from stairlanes.merging import merge_verdict
from stairlanes.nets import depth
from stairlanes.reaching import reach
from stairlanes.reading import number_in, numbers_in, read_counts, read_net
from stairlanes.scenes import begun, done, is_deed
from stairlanes.sharing import shares
from stairlanes.showing import show_counts, show_net
from stairlanes.verdicts import verdict
from stairlanes.weaving import is_still

DEED_WORDS = ("put", "step", "join")
GREATEST_MOST = 4000


def marks(row):
    """Noughts and ones, one beside the other."""
    return "".join([str(number) for number in row])


def only_one(words):
    """The word, where there is just one."""
    if len(words) != 1:
        raise NoLine("one word is asked for")
    return words[0]


def most_of(words):
    """The number that the one word tells, where it is a most."""
    most = number_in(only_one(words))
    if most is None or not 1 <= most <= GREATEST_MOST:
        raise NoLine("no number from 1 to 4000")
    return most


def all_lanes(net):
    """All lanes of the net."""
    return tuple(range(net[0]))


def lanes_of(net, words):
    """The lanes that the words tell, where they rise."""
    lanes = numbers_in(words)
    if not all([is_below(lane, net[0]) for lane in lanes]):
        raise NoLine("no lane of the net")
    if not all([one < other for one, other in zip(lanes, lanes[1:])]):
        raise NoLine("lanes that don't rise")
    return lanes


def counts_of(net, word):
    """The counts that the word tells, where they are the net's."""
    try:
        counts = read_counts(word)
    except NoText:
        raise NoLine("no counts") from None
    if len(counts) != net[0]:
        raise NoLine("counts that aren't the net's")
    return counts


def turns_line(scene):
    """The turns, one beside the other."""
    return marks(scene[0]) if scene[0] else "-"


def groups_line(scene):
    """The groups in their order."""
    return " ".join([f"{many}@{lane}:{fork}" for many, lane, fork in scene[1]]) if scene[1] else "-"


def out_line(scene):
    """The counts that are out."""
    return show_counts(scene[2])


def still_line(scene):
    """Whether no group is left."""
    return "yes" if is_still(scene) else "no"


def depth_line(net):
    """The net's depth."""
    return str(depth(net))


def bar_line(net):
    """The net's first bar."""
    told = bar(net)
    if told is None:
        return "none"
    if told[0] == "row":
        return f"row {marks(told[1])}"
    return " ".join([str(part) for part in told])


def net_line(net):
    """The net's text."""
    return show_net(net)


def ends_line(net, words):
    """The counts of the ends."""
    return show_counts(ends_of(net, counts_of(net, only_one(words))))


def shares_line(net, words):
    """The shares of a lane."""
    lane = number_in(only_one(words))
    if not is_below(lane, net[0]):
        raise NoLine("no lane of the net")
    return show_counts(shares(net)[lane])


def stair_line(net, words):
    """Whether it is a stair net, for all lanes or for some."""
    most = most_of(words[:1])
    some = lanes_of(net, words[1:]) if len(words) > 1 else all_lanes(net)
    word, found = verdict(net, some, most)
    if word == "stair":
        return f"stair {len(found)}"
    return word if found is None else f"{word} {show_counts(found)}"


def reach_line(net, words):
    """How far apart its ends come."""
    most = most_of(words)
    try:
        told = reach(net, all_lanes(net), most)
    except NotEven:
        return "not even"
    if told[0] == "open":
        return "open"
    return f"reach {told[1]} {show_counts(told[2])}"


def merge_line(net, words):
    """Whether it merges."""
    most = most_of(words)
    if net[0] % 2 != 0:
        raise NoLine("a net of an odd number of lanes has no halves to merge")
    word, found = merge_verdict(net, most)
    if word == "merges":
        return f"merges {len(found)}"
    return word if found is None else f"{word} {found[0]} {found[1]}"


OF_THE_SCENE = {"turns": turns_line, "groups": groups_line, "out": out_line, "still": still_line}
OF_THE_NET = {"depth": depth_line, "bar": bar_line, "net": net_line}
OF_MORE_WORDS = {"ends": ends_line, "shares": shares_line, "stair": stair_line, "reach": reach_line,
                 "merge": merge_line}


class Desk:
    """A net that was read, and what was woven on it so far."""

    def __init__(self, text):
        self.net = read_net(text)
        # The scenes behind all deeds so far: going back takes the last one away.
        self.scenes = [begun(self.net)]

    def say(self, line):
        """The answer to the line, of anything."""
        if not isinstance(line, str):
            raise NoLine("no text")
        word, *words = line.split(" ")
        if word in DEED_WORDS:
            return self.weave((word,) + numbers_in(words))
        if word in OF_MORE_WORDS:
            answer_of_words = OF_MORE_WORDS[word]
            return answer_of_words(self.net, words)
        if line in OF_THE_SCENE:
            answer_of_scene = OF_THE_SCENE[line]
            return answer_of_scene(self.scenes[-1])
        if line in OF_THE_NET:
            answer_of_net = OF_THE_NET[line]
            return answer_of_net(self.net)
        if line == "back":
            return self.unweave()
        raise NoLine("none of the desk's lines")

    def weave(self, deed):
        """The deed is done."""
        if not is_deed(self.net, deed):
            raise NoLine("no deed for the net")
        self.scenes.append(done(self.net, self.scenes[-1], deed))
        return "done"

    def unweave(self):
        """The last deed is undone, where there is one."""
        if len(self.scenes) == 1:
            return "none"
        self.scenes.pop()
        return "done"
