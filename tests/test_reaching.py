import unittest

from samples import (ALIKE, BARE, CROSSED, FORK, FOUR, GREAT, LOOSE, NETS, ODD, ONE_LANE, TREE, TWICE, WIDE, Numbers,
                     counts_on, places_by_counts, somes)
from stairlanes.counting import ends_of
from stairlanes.errors import LaneError, NotEven
from stairlanes.reaching import reach
from stairlanes.reachlooks import shows_reach
from stairlanes.sharing import is_even
from stairlanes.stairs import spread_of

OPEN = ("open", None)


def even_nets(numbers, many):
    """Mixed nets of 2 and 4 lanes that are even for lane 0, or for all."""
    told = []
    while len(told) < many:
        net = numbers.net(4, 8)
        if net[0] > 1 and is_even(net, (0,)):
            told.append(net)
    return told


class ByHandTest(unittest.TestCase):
    def test_one_lane(self):
        for most in (1, 2, GREAT):
            self.assertEqual(reach(ONE_LANE, (0,), most), ("reach", 0, (0,)))

    def test_one_fork(self):
        self.assertEqual(reach(FORK, (0, 1), 2), ("reach", 1, (0, 1)))
        self.assertEqual(reach(FORK, (0,), 2), ("reach", 1, (1, 0)))
        self.assertEqual(reach((2, ((0, 1),), (1, 0)), (0, 1), 2), ("reach", 1, (0, 1)))
        self.assertEqual(reach(FORK, (0, 1), 1), OPEN)

    def test_four_lanes(self):
        self.assertEqual(reach(FOUR, (0, 1, 2, 3), 8), ("reach", 1, (0, 0, 0, 1)))
        self.assertEqual(reach(FOUR, (0, 1, 2, 3), 7), OPEN)
        self.assertEqual(reach(FOUR, (1,), 4), ("reach", 1, (0, 1, 0, 0)))

    def test_far_apart(self):
        self.assertEqual(reach(CROSSED, (0, 1, 2, 3), 8), ("reach", 2, (0, 1, 0, 3)))
        self.assertEqual(reach(CROSSED, (0, 1, 2, 3), 9), ("reach", 2, (0, 1, 0, 3)))
        self.assertEqual(reach(CROSSED, (0, 2), 8), ("reach", 2, (1, 0, 3, 0)))
        self.assertEqual(reach(CROSSED, (2,), 8), ("reach", 1, (0, 0, 1, 0)))
        for most in (1, 7):
            self.assertEqual(reach(CROSSED, (0, 1, 2, 3), most), OPEN)
        self.assertEqual(ends_of(CROSSED, (0, 1, 0, 3)), (2, 1, 1, 0))

    def test_the_first_counts_as_tuples_rise(self):
        net = (4, ((2, 1), (0, 2), (0, 1), (3, 1), (1, 0), (2, 3), (0, 3), (1, 2), (3, 2)), (2, 0, 3, 1))
        self.assertEqual(reach(net, (1, 2, 3), 10 ** 6), ("reach", 2, (0, 0, 6, 2)))

    def test_even_for_some_lanes_alone(self):
        self.assertEqual(reach(TREE, (0, 2), 4), ("reach", 1, (0, 0, 1, 0)))
        self.assertEqual(reach(TREE, (0, 2), 3), OPEN)

    def test_128_alike_forks(self):
        self.assertEqual(reach(ALIKE, (0, 1), 2), ("reach", 1, (0, 1)))


class NotEvenTest(unittest.TestCase):
    def test_refused(self):
        for net, some in ((BARE, (0, 1, 2, 3)), (LOOSE, (0,)), (LOOSE, (1,)), (TREE, (1,)), (TREE, (0, 1)), (TREE, (0, 2, 3)),
                          ((2, (), (0, 1)), (0,)), (ODD, (0, 1, 2, 3, 4)), (WIDE, tuple(range(16)))):
            for most in (1, 2, 5, 300):
                with self.assertRaises(NotEven) as caught:
                    reach(net, some, most)
                self.assertIs(type(caught.exception), NotEven)
        self.assertEqual(NotEven.__bases__, (LaneError,))

    def test_just_where_it_is_not_even(self):
        numbers = Numbers(81)
        for net in NETS + tuple(numbers.net(4, 6) for _ in range(80)):
            for some in somes(net[0]):
                try:
                    reach(net, some, 50)
                    refused = False
                except NotEven:
                    refused = True
                self.assertIs(refused, not is_even(net, some))


class AsToldTest(unittest.TestCase):
    def test_by_all_counts(self):
        numbers = Numbers(82)
        fars = []
        for net in [ONE_LANE, FORK, TWICE, FOUR, TREE, CROSSED] + even_nets(numbers, 40):
            for some in somes(net[0]):
                if not is_even(net, some):
                    continue
                levels = places_by_counts(net, some)
                if len(levels) > 20 and len(some) > 1:
                    continue
                many = sum(len(level) for level in levels)
                wanted = reach_by_counts(net, some, len(levels))
                fars.append(wanted[1])
                for most in (many, many + 1, 10 ** 6):
                    self.assertEqual(reach(net, some, most), wanted, (net, some))
                for most in {1, many // 2, many - 1} - {0}:
                    self.assertEqual(reach(net, some, most), OPEN if most < many else wanted, (net, some))
        self.assertGreater(fars.count(2), 5)

    def test_kinds(self):
        told = reach(CROSSED, (0, 1, 2, 3), 99)
        self.assertEqual([type(thing) for thing in told], [str, int, tuple])
        self.assertEqual({type(many) for many in told[2]}, {int})
        self.assertIs(type(told), tuple)


def reach_by_counts(net, some, most_balls):
    """The greatest spread for all counts of fewer balls than this, and the first counts of the fewest that have it."""
    rows = [(-spread_of(ends_of(net, counts)), balls, counts) for balls in range(most_balls)
            for counts in counts_on(net[0], some, balls)]
    turned, balls, counts = min(rows)
    return "reach", -turned, counts


class PromiseTest(unittest.TestCase):
    def test_no_counts_come_farther_apart(self):
        numbers = Numbers(83)
        for net in [FOUR, CROSSED, TREE] + even_nets(numbers, 60):
            for some in somes(net[0]):
                if not is_even(net, some):
                    continue
                word, far, counts = reach(net, some, 10 ** 5)
                self.assertEqual(spread_of(ends_of(net, counts)), far)
                self.assertTrue(all(many == 0 or lane in some for lane, many in enumerate(counts)))
                for low, high in ((0, 9), (0, GREAT), (-9, 9), (-GREAT, GREAT)):
                    mixed = numbers.counts(net[0], low, high)
                    other = tuple(many if lane in some else 0 for lane, many in enumerate(mixed))
                    self.assertLessEqual(spread_of(ends_of(net, other)), far)

    def test_what_is_told_is_taken_and_nothing_less_far(self):
        numbers = Numbers(84)
        for net in [ONE_LANE, FORK, TWICE, FOUR, CROSSED, TREE] + even_nets(numbers, 30):
            for some in somes(net[0]):
                if not is_even(net, some):
                    continue
                word, far, counts = reach(net, some, 10 ** 5)
                book = tuple(place for level in places_by_counts(net, some) for place in level)
                self.assertIs(shows_reach(net, some, far, book), True)
                self.assertIs(shows_reach(net, some, far + 1, book), True)
                self.assertIs(shows_reach(net, some, far - 1, book), False)
                low = tuple(place for place in book if max(place[1]) < far)
                self.assertIs(shows_reach(net, some, far - 1, low), False)


class SameAgainTest(unittest.TestCase):
    def test_the_same_is_told_again(self):
        for net in (FOUR, CROSSED, TWICE):
            some = (0, 1)
            told = [reach(net, some, most) for most in (50, 1, 50, 1)]
            self.assertEqual(told[:2], told[2:])
            self.assertEqual(some, (0, 1))


if __name__ == "__main__":
    unittest.main()
