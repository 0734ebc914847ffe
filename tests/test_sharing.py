import itertools
import unittest

from samples import ALIKE, BARE, FOUR, GREAT, LOOSE, NETS, ODD, ONE_LANE, WIDE, Numbers
from stairlanes.counting import ends_of
from stairlanes.nets import depth
from stairlanes.sharing import is_even, shares, uneven
from stairlanes.stairs import spread_of

TREE = (4, ((0, 2), (0, 1), (2, 3)), (0, 2, 1, 3))


def parts_of(net, lane):
    """The shares of a lane by the chance of each way: half and half at each fork, out of 2 ** depth."""
    on_lanes = [0] * net[0]
    on_lanes[lane] = 2 ** depth(net)
    for one, other in net[1]:
        come = on_lanes[one] + on_lanes[other]
        assert come % 2 == 0
        on_lanes[one] = on_lanes[other] = come // 2
    return tuple(on_lanes[lane] for lane in net[2])


class SharesTest(unittest.TestCase):
    def test_by_hand(self):
        self.assertEqual(shares(ONE_LANE), ((1,),))
        self.assertEqual(shares((2, ((0, 1),), (1, 0))), ((1, 1), (1, 1)))
        self.assertEqual(shares(FOUR), ((2, 2, 2, 2),) * 4)
        self.assertEqual(shares(LOOSE), ((0, 1, 1), (2, 0, 0), (0, 1, 1)))
        self.assertEqual(shares(BARE), ((0, 0, 1, 0), (0, 1, 0, 0), (0, 0, 0, 1), (1, 0, 0, 0)))
        self.assertEqual(shares(TREE), ((1, 1, 1, 1), (2, 0, 2, 0), (1, 1, 1, 1), (0, 2, 0, 2)))

    def test_128_alike_forks(self):
        self.assertEqual(shares(ALIKE), ((2 ** 127, 2 ** 127),) * 2)

    def test_as_halves_of_halves(self):
        numbers = Numbers(31)
        for net in NETS + tuple(numbers.net(16, 128) for _ in range(40)):
            told = shares(net)
            self.assertEqual(told, tuple(parts_of(net, lane) for lane in range(net[0])))
            self.assertIsInstance(told, tuple)
            for share in told:
                self.assertIsInstance(share, tuple)
                self.assertEqual(sum(share), 2 ** depth(net))

    def test_so_many_balls_more_are_the_shares_more(self):
        numbers = Numbers(32)
        for net in NETS + tuple(numbers.net() for _ in range(60)):
            told = shares(net)
            for low, high in ((0, 9), (-9, 9), (-GREAT, GREAT)):
                counts = numbers.counts(net[0], low, high)
                lane, times = numbers.below(net[0]), numbers.below(7) - 3
                more = counts[:lane] + (counts[lane] + times * 2 ** depth(net),) + counts[lane + 1:]
                wanted = tuple(many + times * share for many, share in zip(ends_of(net, counts), told[lane]))
                self.assertEqual(ends_of(net, more), wanted)


class EvenTest(unittest.TestCase):
    def test_all_lanes(self):
        for net, even in ((ONE_LANE, True), (FOUR, True), (ALIKE, True), (LOOSE, False), (BARE, False), (TREE, False)):
            some = tuple(range(net[0]))
            self.assertIs(is_even(net, some), even)
            self.assertEqual(uneven(net, some) is None, even)

    def test_one_lane(self):
        for lane in (0, 2):
            self.assertIs(is_even(TREE, (lane,)), True)
            self.assertIsNone(uneven(TREE, (lane,)))
        for lane in (1, 3):
            self.assertIs(is_even(TREE, (lane,)), False)

    def test_some_lanes(self):
        self.assertIs(is_even(TREE, (0, 2)), True)
        self.assertIsNone(uneven(TREE, (0, 2)))
        for some in ((0, 1), (0, 3), (1, 2), (0, 1, 2, 3)):
            self.assertIs(is_even(TREE, some), False)
        net = (4, ((0, 1), (2, 3), (0, 2), (1, 3)), (0, 1, 2, 3))
        self.assertIs(is_even(net, (0, 1, 2, 3)), True)
        net = (3, ((0, 1), (0, 1)), (0, 1, 2))
        self.assertIs(is_even(net, (0, 1)), False)

    def test_the_least_lane_with_the_least_pair(self):
        self.assertEqual(uneven(TREE, (0, 1, 2, 3)), (1, 0, 1))
        self.assertEqual(uneven(TREE, (0, 2, 3)), (3, 0, 1))
        self.assertEqual(uneven(TREE, (3,)), (3, 0, 1))
        self.assertEqual(uneven(BARE, (0, 1, 2, 3)), (0, 0, 2))
        self.assertEqual(uneven(BARE, (2,)), (2, 0, 3))
        self.assertEqual(uneven(BARE, (3,)), (3, 0, 1))
        self.assertEqual(uneven(LOOSE, (0, 1)), (0, 0, 1))

    def test_none_of_no_lanes(self):
        self.assertIs(is_even(BARE, ()), True)
        self.assertIsNone(uneven(BARE, ()))

    def test_as_told(self):
        numbers = Numbers(33)
        for net in NETS + tuple(numbers.net() for _ in range(60)):
            told = shares(net)
            for some in [(lane,) for lane in range(net[0])] + [tuple(range(net[0])), tuple(range(0, net[0], 2))]:
                wanted = [(lane, one, other) for lane in some for one, other in itertools.combinations(range(net[0]), 2)
                          if told[lane][one] != told[lane][other]]
                self.assertEqual(uneven(net, some), min(wanted, default=None))
                self.assertIs(is_even(net, some), not wanted)

    def test_just_where_it_is_even_the_ends_stay_near_one_another(self):
        numbers = Numbers(34)
        for net in NETS + tuple(numbers.net(4, 6) for _ in range(60)):
            for some in [(lane,) for lane in range(net[0])] + [tuple(range(net[0]))]:
                rows = [tuple(GREAT * (lane == put) for lane in range(net[0])) for put in some]
                mixed = numbers.counts(net[0], -GREAT, GREAT)
                rows.append(tuple(mixed[lane] * (lane in some) for lane in range(net[0])))
                # Each fork rounds by less than one, so an even net's ends lie no farther apart than it has forks.
                far = max(spread_of(ends_of(net, counts)) for counts in rows)
                self.assertIs(is_even(net, some), far <= len(net[1]), (net, some))


class SameAgainTest(unittest.TestCase):
    def test_nothing_changes(self):
        for net in (ODD, WIDE):
            some = (0, 1, 3)
            told = [(shares(net), is_even(net, some), uneven(net, some)) for _ in range(2)]
            self.assertEqual(told[0], told[1])
            self.assertEqual(some, (0, 1, 3))


if __name__ == "__main__":
    unittest.main()
