import copy
import itertools
import unittest

from samples import ALIKE, BARE, FORK, FOUR, GREAT, LOOSE, NETS, ODD, ONE_LANE, TREE, WIDE, Numbers
from stairlanes.comparing import compared
from stairlanes.joining import behind, doubled, renamed
from stairlanes.verdicts import verdict
from stairlanes.ways import rounds, stairway


def by_hand(net, row):
    """What comes to the ends, fork by fork."""
    here = dict(enumerate(row))
    for a, b in net[1]:
        if here[a] < here[b]:
            here[a], here[b] = here[b], here[a]
    return tuple(here[lane] for lane in net[2])


def fallen(row):
    return tuple(sorted(row, reverse=True))


class ComparedTest(unittest.TestCase):
    def test_a_fork(self):
        self.assertEqual(compared(FORK, (1, 2)), (2, 1))
        self.assertEqual(compared(FORK, (2, 1)), (2, 1))
        self.assertEqual(compared((2, ((1, 0),), (0, 1)), (2, 1)), (1, 2))
        self.assertEqual(compared((2, ((1, 0),), (0, 1)), (1, 2)), (1, 2))
        self.assertEqual(compared((2, ((1, 0),), (1, 0)), (1, 2)), (2, 1))

    def test_alike_ones(self):
        self.assertEqual(compared(FORK, (5, 5)), (5, 5))
        self.assertEqual(compared(FOUR, (7, 3, 7, 3)), (7, 7, 3, 3))
        self.assertEqual(compared(FOUR, (0, 0, 0, 0)), (0, 0, 0, 0))

    def test_one_lane_and_without_forks(self):
        self.assertEqual(compared(ONE_LANE, (-3,)), (-3,))
        self.assertEqual(compared(BARE, (10, 11, 12, 13)), (13, 11, 10, 12))
        self.assertEqual(compared((2, (), (1, 0)), (4, 9)), (9, 4))

    def test_ends_in_any_order(self):
        for ends in itertools.permutations(range(3)):
            told = compared((3, ((2, 0),), ends), (5, 6, 7))
            self.assertEqual(told, tuple((5, 6, 7)[lane] for lane in ends))
            told = compared((3, ((2, 0),), ends), (7, 6, 5))
            self.assertEqual(told, tuple((5, 6, 7)[lane] for lane in ends))
        self.assertEqual(compared(LOOSE, (3, 9, 1)), (9, 3, 1))

    def test_forks_one_behind_another(self):
        net = (3, ((0, 1), (1, 2)), (0, 1, 2))
        self.assertEqual(compared(net, (1, 2, 3)), (2, 3, 1))
        self.assertEqual(compared((3, ((1, 2), (0, 1)), (0, 1, 2)), (1, 2, 3)), (3, 1, 2))
        self.assertEqual(compared((2, ((0, 1), (1, 0)), (0, 1)), (1, 2)), (1, 2))
        self.assertEqual(compared(ODD, (1, 2, 3, 4, 5)), by_hand(ODD, (1, 2, 3, 4, 5)))

    def test_numbers_below_0_and_of_thirty_figures(self):
        self.assertEqual(compared(FORK, (-2, -1)), (-1, -2))
        self.assertEqual(compared(FORK, (-1, 0)), (0, -1))
        self.assertEqual(compared(FORK, (GREAT - 1, GREAT)), (GREAT, GREAT - 1))
        self.assertEqual(compared(FORK, (-GREAT, 1 - GREAT)), (1 - GREAT, -GREAT))
        self.assertEqual(compared(FOUR, (-GREAT, GREAT, 0, -1)), (GREAT, 0, -1, -GREAT))

    def test_128_forks(self):
        self.assertEqual(compared(ALIKE, (3, 8)), (3, 8))
        self.assertEqual(compared((2, ALIKE[1], (0, 1)), (3, 8)), (8, 3))
        turned = (2, ALIKE[1][:127] + ((1, 0),), (0, 1))
        self.assertEqual(compared(turned, (8, 3)), (3, 8))

    def test_mixed(self):
        numbers = Numbers(201)
        for net in NETS + tuple(numbers.net() for _ in range(120)):
            for low, high in ((0, 1), (-3, 3), (-GREAT, GREAT)):
                row = numbers.counts(net[0], low, high)
                told = compared(net, row)
                self.assertEqual(told, by_hand(net, row))
                self.assertEqual(sorted(told), sorted(row))
                self.assertIsInstance(told, tuple)


class OrderTest(unittest.TestCase):
    def test_stairways_and_rounds_put_all_in_order(self):
        numbers = Numbers(202)
        for k in range(5):
            for net in (stairway(k), rounds(k)):
                for low, high in ((0, 1), (-4, 4), (-GREAT, GREAT)):
                    for _ in range(10):
                        row = numbers.counts(net[0], low, high)
                        self.assertEqual(compared(net, row), fallen(row))

    def test_each_order_of_unlike_ones(self):
        for net in (stairway(0), stairway(1), stairway(2), rounds(2), FOUR):
            for row in itertools.permutations(range(net[0])):
                self.assertEqual(compared(net, row), fallen(row))
        for row in itertools.product((0, 1), repeat=8):
            self.assertEqual(compared(stairway(3), row), fallen(row))
            self.assertEqual(compared(rounds(3), row), fallen(row))

    def test_each_stair_net_puts_all_in_order(self):
        numbers = Numbers(203)
        nets = [numbers.net(4, 8) for _ in range(200)] + [numbers.near([FOUR, rounds(2)]) for _ in range(40)]
        nets += [behind(BARE, FOUR), behind(TREE, rounds(2)), doubled((2, ((1, 0), (0, 1)), (0, 1))), renamed(FOUR, (2, 0, 3, 1))]
        found = 0
        for net in nets:
            if verdict(net, tuple(range(net[0])), 10 ** 4)[0] == "stair":
                found += 1
                for row in itertools.product((-1, 0, 1), repeat=net[0]):
                    self.assertEqual(compared(net, row), fallen(row))
        self.assertGreater(found, 20)

    def test_other_nets_do_not(self):
        self.assertEqual(compared(TREE, (0, 0, 1, 1)), (1, 1, 0, 0))
        self.assertEqual(compared(TREE, (0, 1, 0, 1)), (1, 1, 0, 0))
        self.assertEqual(compared(TREE, (0, 1, 0, 0)), (1, 0, 0, 0))
        self.assertEqual(compared(TREE, (1, 1, 0, 0)), (1, 0, 1, 0))


class SameAgainTest(unittest.TestCase):
    def test_nothing_changes(self):
        numbers = Numbers(204)
        for net in (ODD, FOUR, WIDE, BARE):
            row = numbers.counts(net[0], -9, 9)
            kept = copy.deepcopy((net, row))
            self.assertEqual(compared(net, row), compared(net, row))
            self.assertEqual((net, row), kept)


if __name__ == "__main__":
    unittest.main()
