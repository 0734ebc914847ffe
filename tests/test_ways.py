import unittest

from samples import FORK, FOUR, GREAT, ONE_LANE, Numbers
from stairlanes.counting import ends_of
from stairlanes.merging import merge_verdict, merges
from stairlanes.nets import depth, is_net, layers, plain
from stairlanes.stairlooks import shows_stair
from stairlanes.stairs import is_stair
from stairlanes.verdicts import verdict
from stairlanes.ways import merger, rounds, stairway, tree


class Builder:
    """The told ways once more, each fork put down as it is told."""

    def __init__(self, lanes):
        self.lanes = lanes
        self.forks = []

    def net(self, ends):
        return plain((self.lanes, tuple(self.forks), tuple(ends)))

    def merger(self, one, other):
        if len(one) == 1:
            self.forks.append((one[0], other[0]))
            return [one[0], other[0]]
        places = range(len(one))
        first = self.merger([one[i] for i in places if i % 2 == 0], [other[i] for i in places if i % 2 == 1])
        second = self.merger([one[i] for i in places if i % 2 == 1], [other[i] for i in places if i % 2 == 0])
        ends = []
        for i in range(len(one)):
            self.forks.append((first[i], second[i]))
            ends += [first[i], second[i]]
        return ends

    def stairway(self, row):
        if len(row) == 1:
            return row
        half = len(row) // 2
        return self.merger(self.stairway(row[:half]), self.stairway(row[half:]))

    def block(self, row):
        if len(row) > 1:
            half = len(row) // 2
            for i in range(half):
                self.forks.append((row[i], row[len(row) - 1 - i]))
            self.block(row[:half])
            self.block(row[half:])

    def tree(self, row):
        if len(row) == 1:
            return row
        half = len(row) // 2
        self.forks.append((row[0], row[half]))
        ends = [None] * len(row)
        ends[::2], ends[1::2] = self.tree(row[:half]), self.tree(row[half:])
        return ends


class ByHandTest(unittest.TestCase):
    def test_of_one_lane(self):
        for way in (stairway, rounds, tree):
            self.assertEqual(way(0), ONE_LANE)

    def test_of_two_lanes(self):
        for way in (merger, stairway, rounds, tree):
            self.assertEqual(way(1), FORK)

    def test_of_four_lanes(self):
        self.assertEqual(merger(2), (4, ((0, 3), (1, 2), (0, 1), (3, 2)), (0, 1, 3, 2)))
        self.assertEqual(stairway(2), FOUR)
        self.assertEqual(rounds(2), (4, ((0, 3), (1, 2), (0, 1), (2, 3)) * 2, (0, 1, 2, 3)))
        self.assertEqual(tree(2), (4, ((0, 2), (0, 1), (2, 3)), (0, 2, 1, 3)))

    def test_of_eight_lanes(self):
        self.assertEqual(merger(3), (8, ((0, 7), (1, 6), (2, 5), (3, 4), (0, 2), (1, 3), (6, 4), (7, 5),
                                         (0, 1), (2, 3), (5, 4), (7, 6)), (0, 1, 2, 3, 7, 6, 5, 4)))
        self.assertEqual(rounds(3), (8, ((0, 7), (1, 6), (2, 5), (3, 4), (0, 3), (1, 2), (4, 7), (5, 6),
                                         (0, 1), (2, 3), (4, 5), (6, 7)) * 3, tuple(range(8))))
        self.assertEqual(tree(3), (8, ((0, 4), (0, 2), (4, 6), (0, 1), (2, 3), (4, 5), (6, 7)), (0, 4, 2, 6, 1, 5, 3, 7)))

    def test_as_told(self):
        for k in range(5):
            row = list(range(2 ** k))
            if k:
                builder = Builder(2 ** k)
                self.assertEqual(merger(k), builder.net(builder.merger(row[:2 ** k // 2], row[2 ** k // 2:])))
            builder = Builder(2 ** k)
            self.assertEqual(stairway(k), builder.net(builder.stairway(row)))
            builder = Builder(2 ** k)
            self.assertEqual(tree(k), builder.net(builder.tree(row)))
            builder = Builder(2 ** k)
            for _ in range(k):
                builder.block(row)
            self.assertEqual(rounds(k), builder.net(row))


class SizesTest(unittest.TestCase):
    def test_plain_nets_of_so_many_lanes(self):
        for way in (merger, stairway, rounds, tree):
            for k in range(1 if way == merger else 0, 5):
                net = way(k)
                self.assertIs(is_net(net), True)
                self.assertEqual(net[0], 2 ** k)
                self.assertEqual(net, plain(net))
                self.assertEqual(list(layers(net)), sorted(layers(net)))

    def test_depths_and_forks(self):
        depths = {merger: (None, 1, 2, 3, 4), stairway: (0, 1, 3, 6, 10), rounds: (0, 1, 4, 9, 16), tree: (0, 1, 2, 3, 4)}
        forks = {merger: (None, 1, 4, 12, 32), stairway: (0, 1, 6, 24, 80), rounds: (0, 1, 8, 36, 128), tree: (0, 1, 3, 7, 15)}
        for way in (merger, stairway, rounds, tree):
            for k in range(1 if way == merger else 0, 5):
                self.assertEqual(depth(way(k)), depths[way][k])
                self.assertEqual(len(way(k)[1]), forks[way][k])


class PromiseTest(unittest.TestCase):
    def test_stairways_and_rounds_are_stair_nets(self):
        for way in (stairway, rounds):
            for k in range(4):
                net = way(k)
                some = tuple(range(net[0]))
                word, book = verdict(net, some, 200)
                self.assertEqual(word, "stair")
                self.assertIs(shows_stair(net, some, book), True)

    def test_of_sixteen_lanes(self):
        numbers = Numbers(101)
        for way in (stairway, rounds):
            net = way(4)
            for some in ((0,), (15,), (3, 4), (0, 7, 12)):
                self.assertEqual(verdict(net, some, 2000)[0], "stair")
            for low, high in ((0, 1), (0, 3), (-1, 1), (-20, 20), (0, GREAT), (-GREAT, GREAT)):
                for _ in range(40):
                    counts = numbers.counts(16, low, high)
                    self.assertTrue(is_stair(ends_of(net, counts)), counts)

    def test_trees_are_stair_nets_for_lane_0(self):
        for k in range(5):
            net = tree(k)
            word, book = verdict(net, (0,), 2 ** k)
            self.assertEqual((word, len(book)), ("stair", 2 ** k))
            for many in (1, 5, 16, GREAT, -1, -7, -GREAT):
                self.assertTrue(is_stair(ends_of(net, (many,) + (0,) * (2 ** k - 1))))
            if k > 1:
                self.assertEqual(verdict(net, tuple(range(2 ** k)), 99)[0], "breaks")

    def test_mergers_merge(self):
        numbers = Numbers(102)
        for k in range(1, 5):
            word, book = merge_verdict(merger(k), 4 ** k)
            self.assertEqual((word, len(book)), ("merges", 4 ** k))
            for _ in range(40):
                self.assertIs(merges(merger(k), numbers.below(40), numbers.below(40)), True)
            if k > 1:
                self.assertEqual(verdict(merger(k), tuple(range(2 ** k)), 999)[0], "breaks")


class SameAgainTest(unittest.TestCase):
    def test_the_same_is_told_again(self):
        for way in (merger, stairway, rounds, tree):
            self.assertEqual([way(3), way(2), way(4)], [way(3), way(2), way(4)])


if __name__ == "__main__":
    unittest.main()
