import copy
import itertools
import unittest

from samples import (ALIKE, BARE, CROSSED, FORK, FOUR, GREAT, HALF_BROKEN, LOOSE, NETS, ODD, ONE_LANE, TREE, TWICE, WIDE,
                     Numbers)
from stairlanes.balls import passed
from stairlanes.counting import ends_of
from stairlanes.joining import behind, beside, doubled, renamed
from stairlanes.nets import depth, is_net, plain
from stairlanes.stairs import is_stair
from stairlanes.verdicts import verdict
from stairlanes.ways import merger, rounds, stairway, tree


def net_of(numbers, lanes, most_forks):
    """A mixed net of just so many lanes."""
    forks = []
    if lanes > 1:
        forks = [tuple(numbers.shuffled(range(lanes))[:2]) for _ in range(numbers.below(most_forks + 1))]
    return lanes, tuple(forks), tuple(numbers.shuffled(range(lanes)))


def alike_nets(numbers, many, most_lanes=6):
    """Pairs of mixed nets of as many lanes."""
    told = []
    for _ in range(many):
        lanes = 1 + numbers.below(most_lanes)
        told.append((net_of(numbers, lanes, 8), net_of(numbers, lanes, 8)))
    return told


class Runner:
    """Balls that run through one net, one by one."""

    def __init__(self, net):
        self.net = net
        self.turns = (0,) * len(net[1])

    def end(self, lane):
        self.turns, end = passed(self.net, self.turns, lane)
        return end


def placed(counts, p):
    """The counts with that of lane i at place p[i]."""
    told = [None] * len(counts)
    for lane, many in enumerate(counts):
        told[p[lane]] = many
    return tuple(told)


class Plain(unittest.TestCase):
    def assert_plain(self, net, lanes, forks):
        self.assertIs(is_net(net), True)
        self.assertEqual(net, plain(net))
        self.assertEqual((net[0], len(net[1])), (lanes, forks))


class BehindTest(Plain):
    def test_by_hand(self):
        self.assertEqual(behind(FORK, FORK), TWICE)
        self.assertEqual(behind((2, ((0, 1),), (1, 0)), FORK), (2, ((0, 1), (1, 0)), (1, 0)))
        self.assertEqual(behind(LOOSE, (3, ((0, 1), (1, 2)), (2, 0, 1))), (3, ((2, 0), (1, 2), (2, 0)), (0, 1, 2)))
        self.assertEqual(behind(ONE_LANE, ONE_LANE), ONE_LANE)

    def test_without_forks(self):
        bare = (4, (), (0, 1, 2, 3))
        for net in (FOUR, TREE, CROSSED, BARE, bare):
            self.assertEqual(behind(net, bare), plain(net))
            self.assertEqual(behind(bare, net), plain(net))
        self.assertEqual(behind(BARE, BARE), (4, (), (2, 1, 3, 0)))
        self.assertEqual(behind(BARE, (4, ((0, 1),), (0, 1, 2, 3))), (4, ((3, 1),), (3, 1, 0, 2)))

    def test_a_fork_of_the_other_may_stand_in_an_early_layer(self):
        one = (4, ((0, 1),), (0, 1, 2, 3))
        self.assertEqual(behind(one, (4, ((2, 3),), (0, 1, 2, 3))), (4, ((0, 1), (2, 3)), (0, 1, 2, 3)))
        self.assertEqual(behind((4, ((2, 3),), (0, 1, 2, 3)), one), (4, ((0, 1), (2, 3)), (0, 1, 2, 3)))

    def test_counts_go_through_one_and_then_through_the_other(self):
        numbers = Numbers(111)
        for one, other in alike_nets(numbers, 150):
            net = behind(one, other)
            self.assert_plain(net, one[0], len(one[1]) + len(other[1]))
            for low, high in ((0, 4), (-9, 9), (-GREAT, GREAT)):
                counts = numbers.counts(one[0], low, high)
                self.assertEqual(ends_of(net, counts), ends_of(other, ends_of(one, counts)))

    def test_balls_go_through_one_and_then_through_the_other(self):
        numbers = Numbers(112)
        for one, other in alike_nets(numbers, 60):
            whole, first, second = Runner(behind(one, other)), Runner(one), Runner(other)
            for _ in range(30):
                lane = numbers.below(one[0])
                self.assertEqual(whole.end(lane), second.end(first.end(lane)))

    def test_of_16_lanes_and_128_forks(self):
        numbers = Numbers(113)
        half = (16, tuple(tuple(numbers.shuffled(range(16))[:2]) for _ in range(64)), tuple(numbers.shuffled(range(16))))
        bare = (16, (), tuple(range(15, -1, -1)))
        for one, other in ((half, half), (rounds(4), bare), (bare, rounds(4)), (stairway(4), (16, half[1][:48], half[2]))):
            net = behind(one, other)
            self.assert_plain(net, 16, 128)
            counts = numbers.counts(16, -GREAT, GREAT)
            self.assertEqual(ends_of(net, counts), ends_of(other, ends_of(one, counts)))
        self.assert_plain(behind((2, ((0, 1),) * 100, (1, 0)), (2, ((0, 1),) * 28, (1, 0))), 2, 128)

    def test_a_stair_net_behind_any_net_is_one(self):
        numbers = Numbers(114)
        for stair in (ONE_LANE, FORK, TWICE, FOUR, rounds(2)):
            for _ in range(25):
                net = behind(net_of(numbers, stair[0], 6), stair)
                self.assertEqual(verdict(net, tuple(range(stair[0])), 10 ** 4)[0], "stair", net)
        self.assertEqual(verdict(behind(tree(3), stairway(3)), tuple(range(8)), 10 ** 4)[0], "stair")
        net = behind((16, tuple((i, i + 3) for i in range(13)), tuple(range(15, -1, -1))), stairway(4))
        for low, high in ((0, 2), (-9, 9), (-GREAT, GREAT)):
            self.assertTrue(is_stair(ends_of(net, numbers.counts(16, low, high))))


class BesideTest(Plain):
    def test_by_hand(self):
        self.assertEqual(beside(ONE_LANE, ONE_LANE), (2, (), (0, 1)))
        self.assertEqual(beside(FORK, FORK), (4, ((0, 1), (2, 3)), (0, 1, 2, 3)))
        self.assertEqual(beside(LOOSE, (2, ((1, 0), (0, 1)), (1, 0))), (5, ((2, 0), (4, 3), (3, 4)), (1, 2, 0, 4, 3)))
        self.assertEqual(beside((2, ((1, 0), (0, 1)), (1, 0)), LOOSE), (5, ((1, 0), (4, 2), (0, 1)), (1, 0, 3, 4, 2)))
        self.assertEqual(beside(ONE_LANE, BARE), (5, (), (0, 4, 2, 1, 3)))

    def test_counts_go_through_each_by_itself(self):
        numbers = Numbers(115)
        for _ in range(150):
            one, other = numbers.net(), numbers.net()
            net = beside(one, other)
            self.assert_plain(net, one[0] + other[0], len(one[1]) + len(other[1]))
            self.assertEqual(depth(net), max(depth(one), depth(other)))
            for low, high in ((0, 4), (-9, 9), (-GREAT, GREAT)):
                counts, more = numbers.counts(one[0], low, high), numbers.counts(other[0], low, high)
                self.assertEqual(ends_of(net, counts + more), ends_of(one, counts) + ends_of(other, more))

    def test_balls_go_through_each_by_itself(self):
        numbers = Numbers(116)
        for _ in range(60):
            one, other = numbers.net(), numbers.net()
            whole, first, second = Runner(beside(one, other)), Runner(one), Runner(other)
            for _ in range(30):
                lane = numbers.below(one[0] + other[0])
                wanted = first.end(lane) if lane < one[0] else one[0] + second.end(lane - one[0])
                self.assertEqual(whole.end(lane), wanted)

    def test_of_16_lanes_and_128_forks(self):
        numbers = Numbers(117)
        for lanes in (1, 2, 8, 15):
            one, other = net_of(numbers, lanes, 0), net_of(numbers, 16 - lanes, 0)
            self.assert_plain(beside(one, other), 16, 0)
        half = (8, tuple(tuple(numbers.shuffled(range(8))[:2]) for _ in range(64)), tuple(numbers.shuffled(range(8))))
        self.assert_plain(beside(half, half), 16, 128)
        self.assert_plain(beside(ALIKE, ONE_LANE), 3, 128)


class DoubledTest(Plain):
    def test_of_one_lane(self):
        self.assertEqual(doubled(ONE_LANE), FORK)

    def test_by_hand(self):
        self.assertEqual(doubled(FORK), FOUR)
        self.assertEqual(doubled((2, ((0, 1),), (1, 0))),
                         (4, ((0, 1), (2, 3), (0, 3), (1, 2), (1, 0), (2, 3)), (1, 0, 2, 3)))
        self.assertEqual(doubled((2, (), (0, 1))), merger(2))

    def test_it_beside_itself_and_a_merger_behind(self):
        numbers = Numbers(118)
        for k in range(4):
            for _ in range(10):
                net = net_of(numbers, 2 ** k, 8)
                twice = doubled(net)
                self.assertEqual(twice, behind(beside(net, net), merger(k + 1)))
                self.assert_plain(twice, 2 * net[0], 2 * len(net[1]) + 2 ** k * (k + 1))
                for low, high in ((0, 4), (-GREAT, GREAT)):
                    counts, more = numbers.counts(2 ** k, low, high), numbers.counts(2 ** k, low, high)
                    wanted = ends_of(merger(k + 1), ends_of(net, counts) + ends_of(net, more))
                    self.assertEqual(ends_of(twice, counts + more), wanted)

    def test_balls_go_through_each_and_then_through_the_merger(self):
        numbers = Numbers(119)
        for k in range(4):
            net = net_of(numbers, 2 ** k, 8)
            whole, halves, last = Runner(doubled(net)), (Runner(net), Runner(net)), Runner(merger(k + 1))
            for _ in range(60):
                half, lane = numbers.below(2), numbers.below(2 ** k)
                wanted = last.end(half * 2 ** k + halves[half].end(lane))
                self.assertEqual(whole.end(half * 2 ** k + lane), wanted)

    def test_of_16_lanes_and_128_forks(self):
        numbers = Numbers(120)
        net = (8, tuple(tuple(numbers.shuffled(range(8))[:2]) for _ in range(48)), tuple(numbers.shuffled(range(8))))
        self.assert_plain(doubled(net), 16, 128)

    def test_stairways_are_doubled_stairways(self):
        for k in range(4):
            self.assertEqual(doubled(stairway(k)), stairway(k + 1))

    def test_a_doubled_stair_net_is_one(self):
        numbers = Numbers(121)
        nets = [ONE_LANE, FORK, TWICE, FOUR, rounds(2)]
        nets += [behind(net_of(numbers, stair[0], 4), stair) for stair in (FORK, FOUR) for _ in range(6)]
        for net in nets:
            twice = doubled(net)
            self.assertEqual(verdict(twice, tuple(range(twice[0])), 10 ** 5)[0], "stair")
        twice = doubled(rounds(3))
        for low, high in ((0, 2), (-9, 9), (-GREAT, GREAT)):
            self.assertTrue(is_stair(ends_of(twice, numbers.counts(16, low, high))))


class RenamedTest(Plain):
    def test_by_hand(self):
        self.assertEqual(renamed(ONE_LANE, (0,)), ONE_LANE)
        self.assertEqual(renamed(FORK, (1, 0)), (2, ((1, 0),), (1, 0)))
        self.assertEqual(renamed(LOOSE, (2, 0, 1)), (3, ((1, 2),), (0, 1, 2)))
        self.assertEqual(renamed(BARE, (1, 2, 3, 0)), (4, (), (0, 2, 1, 3)))
        self.assertEqual(renamed(HALF_BROKEN, (1, 2, 0)), (3, ((0, 1), (0, 2)), (0, 2, 1)))

    def test_told_plain(self):
        net = (4, ((0, 1), (2, 3)), (0, 1, 2, 3))
        self.assertEqual(renamed(net, (2, 3, 0, 1)), (4, ((0, 1), (2, 3)), (2, 3, 0, 1)))
        for net in NETS:
            self.assertEqual(renamed(net, tuple(range(net[0]))), plain(net))

    def test_names_in_any_order(self):
        for p in itertools.permutations(range(4)):
            net = renamed(FOUR, p)
            self.assert_plain(net, 4, 6)
            self.assertEqual(verdict(net, (0, 1, 2, 3), 99)[0], "stair")
            for lane in range(4):
                self.assertEqual(verdict(renamed(TREE, p), (p[lane],), 99)[0], verdict(TREE, (lane,), 99)[0])

    def test_balls_go_as_through_the_net(self):
        numbers = Numbers(122)
        for net in NETS + tuple(numbers.net() for _ in range(60)):
            p = tuple(numbers.shuffled(range(net[0])))
            other = renamed(net, p)
            self.assert_plain(other, net[0], len(net[1]))
            for low, high in ((0, 4), (-9, 9), (-GREAT, GREAT)):
                counts = numbers.counts(net[0], low, high)
                self.assertEqual(ends_of(other, placed(counts, p)), ends_of(net, counts))
            one, more = Runner(net), Runner(other)
            for _ in range(20):
                lane = numbers.below(net[0])
                self.assertEqual(more.end(p[lane]), one.end(lane))


class SameAgainTest(unittest.TestCase):
    def test_nothing_changes(self):
        for net in (ODD, FOUR, WIDE):
            kept = copy.deepcopy(net)
            p = tuple(range(net[0]))[::-1]
            told = [(behind(net, net), beside(net, net), renamed(net, p)) for _ in range(2)]
            self.assertEqual(told[0], told[1])
            self.assertEqual(net, kept)
            self.assertEqual(p, tuple(range(net[0]))[::-1])
        self.assertEqual(doubled(FOUR), doubled(FOUR))


if __name__ == "__main__":
    unittest.main()
