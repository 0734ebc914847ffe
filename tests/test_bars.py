import copy
import itertools
import unittest

from samples import (ALIKE, BARE, CROSSED, FORK, FOUR, LEAST, LOOSE, NETS, ODD, ONE_LANE, TREE, TWICE, WIDE, Numbers, layered,
                     with_ends)
from stairlanes.balls import passed
from stairlanes.barlooks import shows_bar
from stairlanes.bars import bar, least_depth
from stairlanes.comparing import compared
from stairlanes.counting import ends_of
from stairlanes.joining import behind, doubled, renamed
from stairlanes.nets import depth
from stairlanes.stairs import is_stair
from stairlanes.verdicts import verdict
from stairlanes.ways import rounds, stairway, tree


def share_by_balls(net, lane):
    """The share of the lane, by balls that run one by one."""
    turns, out = (0,) * len(net[1]), [0] * net[0]
    for _ in range(2 ** depth(net)):
        turns, end = passed(net, turns, lane)
        out[end] += 1
    return out


def rises(row):
    return any(row[i] < row[j] for i in range(len(row)) for j in range(i + 1, len(row)))


def bars_by_hand(net):
    """All bars of a net of few lanes and little depth, in their order."""
    lanes = net[0]
    told = []
    if lanes not in LEAST:
        told.append(("lanes",))
    elif depth(net) < LEAST[lanes]:
        told.append(("depth",))
    for lane in range(lanes):
        for end, many in enumerate(share_by_balls(net, lane)):
            if lanes * many != 2 ** depth(net):
                told.append(("share", lane, end))
    for row in sorted(itertools.product((0, 1), repeat=lanes)):
        if rises(compared(net, row)):
            told.append(("row", row))
    return told


class LeastDepthTest(unittest.TestCase):
    def test_all_lanes(self):
        self.assertEqual([least_depth(lanes) for lanes in range(1, 17)],
                         [0, 1, None, 3, None, None, None, 6, None, None, None, None, None, None, None, 9])


class BarTest(unittest.TestCase):
    def test_by_hand(self):
        self.assertIsNone(bar(ONE_LANE))
        self.assertIsNone(bar(FORK))
        self.assertIsNone(bar(TWICE))
        self.assertIsNone(bar(FOUR))
        self.assertEqual(bar(LOOSE), ("lanes",))
        self.assertEqual(bar(ODD), ("lanes",))
        self.assertEqual(bar(BARE), ("depth",))
        self.assertEqual(bar(TREE), ("depth",))
        self.assertEqual(bar(CROSSED), ("depth",))
        self.assertEqual(bar((2, (), (0, 1))), ("depth",))
        self.assertEqual(bar((2, ((0, 1),), (1, 0))), ("row", (0, 1)))
        self.assertEqual(bar(ALIKE), ("row", (0, 1)))

    def test_lanes(self):
        for lanes in range(1, 17):
            told = bar((lanes, (), tuple(range(lanes))))
            self.assertEqual(told, None if lanes == 1 else ("depth",) if lanes in LEAST else ("lanes",))
            if lanes not in LEAST:
                self.assertEqual(bar(layered(lanes, 12)), ("lanes",))

    def test_depths_just_the_least_one_less_one_more(self):
        for lanes in (2, 4, 8, 16):
            least = LEAST[lanes]
            self.assertEqual(depth(layered(lanes, least)), least)
            self.assertEqual(bar(layered(lanes, least - 1)), ("depth",))
            for many in (least, least + 1):
                self.assertEqual(bar(layered(lanes, many)), None if lanes == 2 else ("share", 0, 0))
        self.assertEqual(depth(stairway(2)), 3)
        self.assertEqual(depth(stairway(3)), 6)
        self.assertIsNone(bar(stairway(2)))
        self.assertIsNone(bar(stairway(3)))

    def test_the_depth_counts_not_the_number_of_forks(self):
        side_by_side = (4, ((0, 1), (2, 3)) * 2, (0, 1, 2, 3))
        self.assertEqual(bar(side_by_side), ("depth",))
        self.assertEqual(bar((4, ((0, 1),) * 3, (0, 1, 2, 3))), ("share", 0, 0))

    def test_shares_the_first_as_tuples_rise(self):
        # What comes on lane 0 or 1 is spread over all ends, so lane 2 is the first at fault.
        net = (4, ((0, 1), (0, 2), (1, 3), (0, 2), (1, 3)), (0, 1, 2, 3))
        self.assertEqual([share_by_balls(net, lane) for lane in range(4)],
                         [[2, 2, 2, 2], [2, 2, 2, 2], [4, 0, 4, 0], [0, 4, 0, 4]])
        self.assertEqual(bar(net), ("share", 2, 0))
        # Of lane 0 an end has its part, and the ends that haven't stand behind it, or ahead.
        net = (4, ((0, 1), (0, 2), (2, 3)), (0, 1, 2, 3))
        self.assertEqual(share_by_balls(net, 0), [2, 4, 1, 1])
        self.assertEqual(bar(net), ("share", 0, 1))
        self.assertEqual(bar(with_ends(net, (0, 3, 2, 1))), ("share", 0, 1))
        self.assertEqual(bar(with_ends(net, (1, 0, 2, 3))), ("share", 0, 0))

    def test_rows_the_first_as_tuples_rise(self):
        self.assertEqual(bar(with_ends(FOUR, (1, 0, 3, 2))), ("row", (0, 0, 0, 1)))
        self.assertEqual(bar(with_ends(FOUR, (0, 3, 1, 2))), ("row", (0, 0, 1, 1)))
        self.assertEqual(bar(with_ends(FOUR, (0, 1, 2, 3))), ("row", (0, 1, 1, 1)))
        ends = stairway(3)[2]
        self.assertEqual(bar(with_ends(stairway(3), ends[:6] + (ends[7], ends[6]))), ("row", (0,) + (1,) * 7))
        self.assertEqual(bar(with_ends(stairway(3), (ends[1], ends[0]) + ends[2:])), ("row", (0,) * 7 + (1,)))

    def test_of_more_than_8_lanes_no_rows(self):
        ends = stairway(4)[2]
        turned = with_ends(stairway(4), ends[::-1])
        self.assertIsNone(bar(turned))
        self.assertIs(shows_bar(turned, ("row", (0,) * 15 + (1,))), True)
        ends = stairway(3)[2]
        self.assertEqual(bar(with_ends(stairway(3), ends[::-1])), ("row", (0,) * 7 + (1,)))

    def test_the_earlier_bar_is_told(self):
        for net, told, later in ((LOOSE, ("lanes",), ("share", 0, 0)), (LOOSE, ("lanes",), ("row", (0, 0, 1))),
                                 (BARE, ("depth",), ("share", 0, 0)), (BARE, ("depth",), ("row", (0, 0, 1, 0))),
                                 (layered(4, 3), ("share", 0, 0), ("row", (0, 0, 0, 1))),
                                 (layered(16, 8), ("depth",), ("row", (0,) * 15 + (1,)))):
            self.assertIs(shows_bar(net, later), True)
            self.assertEqual(bar(net), told)

    def test_128_forks(self):
        self.assertIsNone(bar(rounds(4)))
        self.assertIsNone(bar((2, ALIKE[1], (0, 1))))
        self.assertEqual(bar((2, ALIKE[1][:127] + ((1, 0),), (0, 1))), ("row", (0, 1)))
        self.assertEqual(bar((4, ((0, 1),) * 128, (0, 1, 2, 3))), ("share", 0, 0))
        self.assertEqual(bar((4, ((0, 1),) * 122 + FOUR[1], (0, 1, 3, 2))), None)
        self.assertEqual(len(((0, 1),) * 122 + FOUR[1]), 128)

    def test_the_first_of_all_bars(self):
        numbers = Numbers(211)
        nets = [numbers.net(6, 9) for _ in range(150)] + [numbers.near([FOUR, rounds(2), stairway(2)]) for _ in range(150)]
        nets += [with_ends(FOUR, ends) for ends in itertools.permutations(range(4))]
        nets += [with_ends(rounds(2), ends) for ends in itertools.permutations(range(4))]
        nets += [numbers.near([stairway(3)]) for _ in range(10)] + [layered(8, 6), layered(8, 5), ONE_LANE, FORK]
        words = set()
        for net in nets:
            told = bars_by_hand(net)
            self.assertEqual(bar(net), told[0] if told else None, net)
            words.add(told[0][0] if told else None)
        self.assertEqual(words, {"lanes", "depth", "share", "row", None})


class WholeTest(unittest.TestCase):
    def test_stair_nets_have_none(self):
        for k in range(5):
            self.assertIsNone(bar(stairway(k)))
            self.assertIsNone(bar(rounds(k)))
        numbers = Numbers(212)
        for k in range(4):
            self.assertIsNone(bar(doubled(rounds(k))))
        for net in (FOUR, rounds(2), stairway(3)):
            self.assertIsNone(bar(renamed(net, tuple(numbers.shuffled(range(net[0]))))))
            self.assertIsNone(bar(behind(layered(net[0], 2), net)))

    def test_trees_are_barred_where_they_have_more_than_two_lanes(self):
        self.assertEqual([bar(tree(k)) for k in range(5)], [None, None, ("depth",), ("depth",), ("depth",)])

    def test_no_net_with_a_bar_is_a_stair_net(self):
        numbers = Numbers(213)
        nets = [numbers.net(5, 10) for _ in range(200)] + [numbers.near([FOUR, rounds(2)]) for _ in range(100)]
        nets += [with_ends(FOUR, ends) for ends in itertools.permutations(range(4))]
        nets += [behind(numbers.near([FOUR]), rounds(2)) for _ in range(20)]
        barred = stairs = 0
        for net in nets:
            word, found = verdict(net, tuple(range(net[0])), 10 ** 4)
            if bar(net) is not None:
                barred += 1
                self.assertEqual(word, "breaks", net)
                self.assertFalse(is_stair(ends_of(net, found)))
            if word == "stair":
                stairs += 1
                self.assertIsNone(bar(net))
        self.assertGreater(barred, 150)
        self.assertGreater(stairs, 20)

    def test_nothing_changes(self):
        for net in (ODD, FOUR, BARE, WIDE, with_ends(FOUR, (1, 0, 3, 2)), layered(4, 3)):
            kept = copy.deepcopy(net)
            self.assertEqual(bar(net), bar(net))
            self.assertEqual(net, kept)
        for net in NETS:
            told = bar(net)
            self.assertTrue(told is None or isinstance(told, tuple))


if __name__ == "__main__":
    unittest.main()
