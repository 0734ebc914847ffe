import unittest

from samples import ALIKE, BARE, FOUR, GREAT, LOOSE, NETS, ODD, ONE_LANE, Numbers
from stairlanes.balls import passed, passed_back
from stairlanes.counting import ends_of, turns_of

FORK = (2, ((0, 1),), (0, 1))


def one_by_one(net, counts, numbers):
    """Ends and turns behind the balls of the counts, in a mixed order."""
    balls = [lane for lane, many in enumerate(counts) for _ in range(abs(many))]
    turns, ends = (0,) * len(net[1]), [0] * net[0]
    for lane in numbers.shuffled(balls):
        if counts[lane] > 0:
            turns, end = passed(net, turns, lane)
            ends[end] += 1
        else:
            turns, end = passed_back(net, turns, lane)
            ends[end] -= 1
    return tuple(ends), turns


class CountingTest(unittest.TestCase):
    def test_halved_up(self):
        halves = {0: (0, 0), 1: (1, 0), 2: (1, 1), 3: (2, 1), 4: (2, 2), -1: (0, -1), -2: (-1, -1), -3: (-1, -2),
                  -4: (-2, -2), -5: (-2, -3)}
        for come, parts in halves.items():
            for counts in ((come, 0), (0, come), (come + 7, -7), (come - 9, 9)):
                self.assertEqual(ends_of(FORK, counts), parts)
                self.assertEqual(turns_of(FORK, counts), (come & 1,))

    def test_the_rounded_half_goes_on_on_the_first_lane_of_the_pair(self):
        self.assertEqual(ends_of((2, ((1, 0),), (0, 1)), (3, 0)), (1, 2))
        self.assertEqual(ends_of((2, ((1, 0),), (1, 0)), (3, 0)), (2, 1))

    def test_thirty_figures(self):
        half = GREAT // 2
        self.assertEqual(ends_of(FORK, (GREAT, 0)), (half + 1, half))
        self.assertEqual(ends_of(FORK, (0, -GREAT)), (-half, -half - 1))
        self.assertEqual(ends_of(FORK, (GREAT, GREAT)), (GREAT, GREAT))
        self.assertEqual(ends_of(FORK, (GREAT, -GREAT)), (0, 0))
        self.assertEqual(turns_of(FORK, (GREAT, 0)), (1,))
        self.assertEqual(turns_of(FORK, (-GREAT, 0)), (1,))
        self.assertEqual(ends_of(FOUR, (GREAT, 0, 0, GREAT)), (GREAT // 2 + 1,) * 2 + (GREAT // 2,) * 2)

    def test_by_hand(self):
        # Forks of ODD: (3 1) 5 -> 3 2; (0 4) 7 -> 4 3; (1 0) 6 -> 3 3; (3 1) 6 -> 3 3; (4 2) 5 -> 3 2;
        # (1 3) 6 -> 3 3; (0 4) 6 -> 3 3.
        self.assertEqual(ends_of(ODD, (2, 1, 2, 4, 5)), (2, 3, 3, 3, 3))
        self.assertEqual(turns_of(ODD, (2, 1, 2, 4, 5)), (1, 1, 0, 0, 1, 0, 0))

    def test_without_forks(self):
        self.assertEqual(ends_of(ONE_LANE, (-5,)), (-5,))
        self.assertEqual(turns_of(ONE_LANE, (-5,)), ())
        self.assertEqual(ends_of(BARE, (4, -5, 6, 0)), (0, -5, 4, 6))
        self.assertEqual(turns_of(BARE, (4, -5, 6, 0)), ())
        self.assertEqual(ends_of(LOOSE, (0, -9, 1)), (-9, 1, 0))

    def test_128_alike_forks(self):
        self.assertEqual(ends_of(ALIKE, (5, 6)), (5, 6))
        self.assertEqual(turns_of(ALIKE, (5, 6)), (1,) * 128)
        self.assertEqual(ends_of(ALIKE, (-5, -6)), (-6, -5))

    def test_none(self):
        for net in NETS:
            self.assertEqual(ends_of(net, (0,) * net[0]), (0,) * net[0])
            self.assertEqual(turns_of(net, (0,) * net[0]), (0,) * len(net[1]))

    def test_in_whatever_order(self):
        numbers = Numbers(6)
        for _ in range(200):
            net = numbers.net()
            counts = numbers.counts(net[0], -6, 6)
            for _ in range(2):
                self.assertEqual((ends_of(net, counts), turns_of(net, counts)), one_by_one(net, counts, numbers))

    def test_none_are_lost(self):
        numbers = Numbers(7)
        for _ in range(100):
            net = numbers.net(16, 128)
            counts = tuple(numbers.pick((GREAT, -GREAT, 0, 1, -1, 77)) for _ in range(net[0]))
            self.assertEqual(sum(ends_of(net, counts)), sum(counts))

    def test_what_was_told_may_be_handed_in_again(self):
        counts = (GREAT,) * 4
        for _ in range(5):
            counts = tuple(4 * many for many in ends_of(FOUR, counts))
        self.assertEqual(ends_of(FOUR, counts), counts)

    def test_nothing_changes(self):
        for net in NETS:
            counts = tuple(range(-2, net[0] - 2))
            told = [(ends_of(net, counts), turns_of(net, counts)) for _ in range(2)]
            self.assertEqual(told[0], told[1])
            self.assertEqual(counts, tuple(range(-2, net[0] - 2)))
            self.assertIsInstance(told[0][0], tuple)
            self.assertIsInstance(told[0][1], tuple)


if __name__ == "__main__":
    unittest.main()
