import copy
import itertools
import unittest

from samples import (ALIKE, BARE, CROSSED, FORK, FOUR, GREAT, LEAST, LOOSE, NETS, ODD, ONE_LANE, TREE, WIDE, Agreeing,
                     Numbers, anything, layered, nested, with_ends, with_one_changed, wrong_rows)
from stairlanes.barlooks import shows_bar
from stairlanes.bars import bar
from stairlanes.comparing import compared
from stairlanes.nets import depth
from stairlanes.sharing import shares
from stairlanes.verdicts import verdict
from stairlanes.ways import rounds, stairway, tree


def is_bar(net, thing):
    """Whether it is a bar, of such as have the form of one."""
    lanes = net[0]
    if thing == ("lanes",):
        return lanes not in LEAST
    if thing == ("depth",):
        return lanes in LEAST and depth(net) < LEAST[lanes]
    if thing[0] == "share":
        return lanes * shares(net)[thing[1]][thing[2]] != 2 ** depth(net)
    told = compared(net, thing[1])
    return any(one < other for one, other in zip(told, told[1:]))


def all_forms(net):
    """All that has the form of a bar of a net of few lanes."""
    told = [("lanes",), ("depth",)]
    told += [("share",) + pair for pair in itertools.product(range(net[0]), repeat=2)]
    return told + [("row", row) for row in itertools.product((0, 1), repeat=net[0])]


def turned(net):
    """The net with its ends the other way round."""
    return with_ends(net, net[2][::-1])


class ShowsBarTest(unittest.TestCase):
    def test_lanes(self):
        for lanes in range(1, 17):
            for many in (0, 1, 9):
                self.assertIs(shows_bar(layered(lanes, many), ("lanes",)), lanes not in LEAST)

    def test_depth(self):
        for lanes in range(1, 17):
            for many in range(12 if lanes > 1 else 1):
                self.assertIs(shows_bar(layered(lanes, many), ("depth",)), lanes in LEAST and many < LEAST[lanes], (lanes, many))

    def test_of_any_lane_and_end(self):
        # Each lane comes out at one end alone, so each lane bars it at each end.
        for lane, end in itertools.product(range(4), repeat=2):
            self.assertIs(shows_bar(BARE, ("share", lane, end)), True)
            self.assertIs(shows_bar(FOUR, ("share", lane, end)), False)
            self.assertIs(shows_bar(CROSSED, ("share", lane, end)), False)
            self.assertIs(shows_bar(TREE, ("share", lane, end)), lane in (1, 3))

    def test_of_any_row(self):
        net = (4, FOUR[1], (0, 1, 2, 3))
        for row in itertools.product((0, 1), repeat=4):
            self.assertIs(shows_bar(net, ("row", row)), sum(row) == 3)
            self.assertIs(shows_bar(FOUR, ("row", row)), False)
        self.assertIs(shows_bar(ONE_LANE, ("row", (0,))), False)
        self.assertIs(shows_bar(ONE_LANE, ("row", (1,))), False)

    def test_of_more_than_8_lanes_too(self):
        net = turned(stairway(4))
        self.assertIsNone(bar(net))
        numbers = Numbers(221)
        for _ in range(60):
            row = numbers.counts(16, 0, 1)
            self.assertIs(shows_bar(net, ("row", row)), 0 < sum(row) < 16)
            self.assertIs(shows_bar(stairway(4), ("row", row)), False)
        wide = (9, (), tuple(range(9)))
        self.assertIs(shows_bar(wide, ("row", (1, 1, 1, 1, 0, 0, 0, 0, 0))), False)
        self.assertIs(shows_bar(wide, ("row", (1, 1, 1, 1, 0, 0, 0, 0, 1))), True)
        self.assertIs(shows_bar(wide, ("share", 8, 8)), True)

    def test_a_later_bar_where_an_earlier_one_is_there_too(self):
        for thing in (("lanes",), ("share", 0, 0), ("share", 2, 1), ("row", (0, 0, 1)), ("row", (1, 0, 0))):
            self.assertIs(shows_bar(LOOSE, thing), True, thing)
        self.assertIs(shows_bar(LOOSE, ("depth",)), False)
        for thing in (("depth",), ("share", 1, 0), ("share", 3, 3), ("row", (1, 0, 0, 0)), ("row", (0, 0, 1, 0))):
            self.assertIs(shows_bar(BARE, thing), True, thing)
        self.assertIs(shows_bar(BARE, ("lanes",)), False)

    def test_what_bar_tells_is_taken(self):
        numbers = Numbers(222)
        nets = list(NETS) + [numbers.net() for _ in range(80)] + [numbers.near([FOUR, stairway(3)]) for _ in range(30)]
        nets += [tree(k) for k in range(5)] + [turned(stairway(k)) for k in range(4)] + [layered(16, 8), layered(16, 9)]
        words = set()
        for net in nets:
            told = bar(net)
            if told is not None:
                self.assertIs(shows_bar(net, told), True)
                words.add(told[0])
        self.assertEqual(words, {"lanes", "depth", "share", "row"})

    def test_each_form(self):
        numbers = Numbers(223)
        for net in [numbers.net(5, 9) for _ in range(60)] + [ONE_LANE, FORK, FOUR, BARE, TREE, ODD, ALIKE, turned(FOUR)]:
            taken = []
            for thing in all_forms(net):
                self.assertIs(shows_bar(net, thing), is_bar(net, thing), (net, thing))
                taken.append(shows_bar(net, thing))
            self.assertEqual(any(taken), bar(net) is not None)

    def test_no_stair_net_has_one(self):
        for k in range(4):
            for net in (stairway(k), rounds(k)):
                for thing in all_forms(net):
                    self.assertIs(shows_bar(net, thing), False)
        numbers = Numbers(224)
        for net in [numbers.net(4, 8) for _ in range(150)] + [numbers.near([FOUR]) for _ in range(30)]:
            if any(shows_bar(net, thing) for thing in all_forms(net)):
                self.assertEqual(verdict(net, tuple(range(net[0])), 10 ** 4)[0], "breaks")

    def test_shares_of_many_figures(self):
        net = (4, ((0, 1),) * 122 + FOUR[1], (0, 1, 3, 2))
        self.assertEqual(depth(net), 125)
        for lane, end in itertools.product(range(4), repeat=2):
            self.assertIs(shows_bar(net, ("share", lane, end)), False)
            self.assertIs(shows_bar((4, ((0, 1),) * 128, (0, 1, 2, 3)), ("share", lane, end)), True)


class WrongThingsTest(unittest.TestCase):
    def assert_none(self, net, things):
        for thing in things:
            self.assertIs(shows_bar(net, thing), False, thing)

    def test_other_words(self):
        self.assert_none(LOOSE, [("lane",), ("LANES",), ("",), (b"lanes",), (None,), ("lanes ",), "lanes", ["lanes"], {"lanes"},
                                 {"lanes": 1}, (("lanes",),), ("lanes", "lanes"), ("lanes", 3), ("lanes", None), ("lanes", ()),
                                 ("share",), ("row",), ("depths",), (Agreeing(),)])
        self.assert_none(BARE, [("Depth",), ["depth"], "depth", ("depth", 0), ("depth", 0, 0), (b"depth",), ("depth", ()),
                                ("shares", 0, 0), ("Share", 0, 0), (b"share", 0, 0), (None, 0, 0), (Agreeing(), 0, 0),
                                ("rows", (0, 0, 1, 0)), (b"row", (0, 0, 1, 0)), (Agreeing(), (0, 0, 1, 0)),
                                ("lanes", 0, 0), ("row", 0, 0), ("depth", 0, 0), ("share", (0, 0, 1, 0))])

    def test_shares(self):
        self.assertIs(shows_bar(BARE, ("share", 0, 1)), True)
        for thing in (None, "0", b"0", (), (0,), [0], -1, -4, 4, 16, GREAT, -GREAT, True, False, Agreeing(), nested(59)):
            self.assert_none(BARE, [("share", thing, 0), ("share", 0, thing), ("share", thing, thing)])
        self.assert_none(BARE, [("share",), ("share", 0), ("share", 0, 1, 0), ("share", (0, 1)), ["share", 0, 1], "share 0 1",
                                ("share", [0, 1]), (("share", 0, 1),), ("share", 0, 1, None)])

    def test_lanes_and_ends_that_are_not_there(self):
        for net in NETS:
            for lane, end in ((net[0], 0), (0, net[0]), (-1, 0), (0, -1), (net[0], net[0])):
                self.assert_none(net, [("share", lane, end)])

    def test_rows(self):
        row = (0, 0, 1, 0)
        self.assertIs(shows_bar(BARE, ("row", row)), True)
        self.assert_none(BARE, [("row", thing) for thing in wrong_rows(row)])
        for number in (2, -1, 9, GREAT):
            self.assert_none(BARE, [("row", with_one_changed(row, place, number)) for place in range(4)])
        self.assert_none(BARE, [("row",), ("row", row, row), ("row", 0, 0, 1, 0), ["row", row], ("row", (0, 0, 1)),
                                ("row", (0, 0, 1, 0, 0)), ("row", (0, 0, 1, 0, 1)), ("row", ()), ("row", "0010"),
                                ("row", (row,)), ("row", (False, False, True, False)), "row 0010", (row,), row])

    def test_rows_of_more_than_8_lanes(self):
        net = turned(stairway(4))
        row = (0,) * 15 + (1,)
        self.assertIs(shows_bar(net, ("row", row)), True)
        self.assert_none(net, [("row", thing) for thing in wrong_rows(row)])

    def test_anything(self):
        for net in (LOOSE, BARE, FOUR, ONE_LANE, turned(FOUR), WIDE):
            for thing in anything() + [Agreeing()]:
                self.assert_none(net, [thing, (thing,), (thing, thing), (thing, 0, 0), (thing, (0,) * net[0]), ("row", thing),
                                       ("share", thing, 0), ("share", 0, thing), ("lanes", thing), ("depth", thing),
                                       ("share", 0, 0, thing), ("row", (thing,) * net[0]), [thing]])

    def test_deep(self):
        self.assert_none(BARE, [nested(60), ("row", nested(59)), ("row", (nested(58),) * 4), (nested(59), 0, 0)])


class SameAgainTest(unittest.TestCase):
    def test_nothing_changes(self):
        for thing in (("row", (0, 0, 1, 0)), ["row", [0, 0, 1, 0]], {"row": [0]}, ("share", 0, 1), ("row", [0, 0, 1, 0])):
            kept = copy.deepcopy(thing)
            for net in (BARE, FOUR, TREE):
                self.assertIs(shows_bar(net, thing), shows_bar(net, thing))
            self.assertEqual(thing, kept)


if __name__ == "__main__":
    unittest.main()
