import unittest

from samples import ALIKE, BARE, FOUR, LOOSE, NETS, ODD, ONE_LANE, Numbers
from stairlanes.balls import passed, passed_back

FORK = (2, ((0, 1),), (0, 1))
FALLING = (2, ((1, 0),), (0, 1))


def first_turns(net):
    return (0,) * len(net[1])


class PassedTest(unittest.TestCase):
    def test_one_fork(self):
        for lane in (0, 1):
            self.assertEqual(passed(FORK, (0,), lane), ((1,), 0))
            self.assertEqual(passed(FORK, (1,), lane), ((0,), 1))
            self.assertEqual(passed(FALLING, (0,), lane), ((1,), 1))
            self.assertEqual(passed(FALLING, (1,), lane), ((0,), 0))

    def test_by_hand(self):
        turns = first_turns(ODD)
        # Lane 4 -> fork 1 to 0 -> fork 2 to 1 -> fork 3 to 3 -> fork 5 to 1: end 4.
        turns, end = passed(ODD, turns, 4)
        self.assertEqual((turns, end), ((0, 1, 1, 1, 0, 1, 0), 4))
        # Lane 0 -> fork 1 to 4 -> fork 4 to 4 -> fork 6 to 0: end 2.
        turns, end = passed(ODD, turns, 0)
        self.assertEqual((turns, end), ((0, 0, 1, 1, 1, 1, 1), 2))
        # Lane 2 -> fork 4 to 2: end 0.
        turns, end = passed(ODD, turns, 2)
        self.assertEqual((turns, end), ((0, 0, 1, 1, 0, 1, 1), 0))

    def test_a_ball_does_not_go_to_a_fork_ahead_of_its_own(self):
        net = (3, ((0, 1), (1, 2)), (0, 1, 2))
        self.assertEqual(passed(net, (0, 0), 2), ((0, 1), 1))
        self.assertEqual(passed(net, (1, 1), 0), ((0, 0), 2))

    def test_without_forks(self):
        self.assertEqual(passed(ONE_LANE, (), 0), ((), 0))
        self.assertEqual(passed(LOOSE, (1,), 1), ((1,), 0))
        for lane, end in ((3, 0), (1, 1), (0, 2), (2, 3)):
            self.assertEqual(passed(BARE, (), lane), ((), end))

    def test_128_alike_forks(self):
        turns, end = passed(ALIKE, (0,) * 128, 1)
        self.assertEqual((turns, end), ((1,) * 128, 1))
        turns, end = passed(ALIKE, turns, 0)
        self.assertEqual((turns, end), ((0,) * 128, 0))

    def test_stairs_one_by_one(self):
        turns = first_turns(FOUR)
        told = []
        for lane in (2, 2, 0, 3, 1, 1, 1, 0):
            turns, end = passed(FOUR, turns, lane)
            told.append(end)
        self.assertEqual(told, [0, 1, 2, 3, 0, 1, 2, 3])


class PassedBackTest(unittest.TestCase):
    def test_one_fork(self):
        for lane in (0, 1):
            self.assertEqual(passed_back(FORK, (1,), lane), ((0,), 0))
            self.assertEqual(passed_back(FORK, (0,), lane), ((1,), 1))
            self.assertEqual(passed_back(FALLING, (1,), lane), ((0,), 1))
            self.assertEqual(passed_back(FALLING, (0,), lane), ((1,), 0))

    def test_by_hand(self):
        # Lane 4 -> fork 1 to 4 -> fork 4 to 2: end 0.
        self.assertEqual(passed_back(ODD, first_turns(ODD), 4), ((0, 1, 0, 0, 1, 0, 0), 0))

    def test_without_forks(self):
        self.assertEqual(passed_back(ONE_LANE, (), 0), ((), 0))
        self.assertEqual(passed_back(LOOSE, (1,), 1), ((1,), 0))

    def test_undoes_a_ball(self):
        numbers = Numbers(4)
        for _ in range(200):
            net = numbers.net()
            turns = numbers.counts(len(net[1]), 0, 1)
            lane = numbers.below(net[0])
            behind, end = passed(net, turns, lane)
            self.assertEqual(passed_back(net, behind, lane), (turns, end))
            behind, end = passed_back(net, turns, lane)
            self.assertEqual(passed(net, behind, lane), (turns, end))

    def test_undoes_a_ball_of_long_ago(self):
        numbers = Numbers(5)
        for _ in range(60):
            net = numbers.net()
            lanes = [numbers.below(net[0]) for _ in range(9)]
            turns, ends = first_turns(net), [0] * net[0]
            for lane in lanes:
                turns, end = passed(net, turns, lane)
                ends[end] += 1
            for lane in numbers.shuffled(lanes):
                turns, end = passed_back(net, turns, lane)
                ends[end] -= 1
            self.assertEqual((turns, ends), (first_turns(net), [0] * net[0]))


class SameAgainTest(unittest.TestCase):
    def test_nothing_changes(self):
        for net in NETS:
            turns = first_turns(net)
            for run in (passed, passed_back):
                told = run(net, turns, 0)
                self.assertEqual(run(net, turns, 0), told)
                self.assertEqual(turns, first_turns(net))
                self.assertIsInstance(told, tuple)
                self.assertIsInstance(told[0], tuple)


if __name__ == "__main__":
    unittest.main()
