import itertools
import unittest

from samples import GREAT
from stairlanes.stairs import is_stair, spread_of, stair_of


class IsStairTest(unittest.TestCase):
    def test_stairs(self):
        for counts in ((0,), (-7,), (GREAT,), (1, 1), (1, 0), (3, 3, 2, 2), (0, 0, -1), (-1, -2, -2), (0, 0, 0, 0),
                       (GREAT, GREAT, GREAT - 1), (-GREAT, -GREAT - 1), (5,) * 16, (1,) + (0,) * 15, (1,) * 15 + (0,)):
            self.assertIs(is_stair(counts), True, counts)

    def test_no_stairs(self):
        for counts in ((0, 1), (2, 0), (2, 1, 0), (1, 0, 1), (0, 0, 1), (1, 1, 0, -1), (-1, 0), (GREAT, -GREAT),
                       (GREAT, GREAT - 2), (-GREAT, 1 - GREAT), (1, 0) * 8, (0,) * 15 + (1,), (2,) + (1,) * 14 + (0,)):
            self.assertIs(is_stair(counts), False, counts)

    def test_each_two(self):
        for many in (1, 2, 3, 4):
            for counts in itertools.product(range(-2, 3), repeat=many):
                told = all(ahead - behind in (0, 1) for ahead, behind in itertools.combinations(counts, 2))
                self.assertIs(is_stair(counts), told, counts)


class StairOfTest(unittest.TestCase):
    def test_by_hand(self):
        for total, many, stair in ((0, 1, (0,)), (7, 1, (7,)), (-7, 1, (-7,)), (7, 3, (3, 2, 2)), (8, 3, (3, 3, 2)),
                                   (9, 3, (3, 3, 3)), (0, 4, (0, 0, 0, 0)), (1, 4, (1, 0, 0, 0)), (3, 4, (1, 1, 1, 0)),
                                   (-1, 4, (0, 0, 0, -1)), (-3, 4, (0, -1, -1, -1)), (-4, 4, (-1, -1, -1, -1)),
                                   (-5, 4, (-1, -1, -1, -2)), (-7, 3, (-2, -2, -3))):
            self.assertEqual(stair_of(total, many), stair)

    def test_thirty_figures(self):
        third = GREAT // 3
        self.assertEqual(stair_of(GREAT - 1, 3), (third, third, third - 1))
        self.assertEqual(stair_of(-GREAT - 1, 3), (-third, -third, -third - 1))

    def test_the_one_stair_of_the_total(self):
        for many in (1, 2, 3, 5, 16, 17, 100):
            for total in list(range(-40, 41)) + [GREAT, -GREAT, GREAT // 7, -GREAT // 7]:
                stair = stair_of(total, many)
                self.assertIsInstance(stair, tuple)
                self.assertEqual((len(stair), sum(stair)), (many, total))
                self.assertTrue(all(0 <= stair[0] - step <= 1 for step in stair))
                self.assertEqual(list(stair), sorted(stair, reverse=True))


class SpreadOfTest(unittest.TestCase):
    def test_spread(self):
        for counts, spread in (((5,), 0), ((1, 1, 1), 0), ((2, 5, 3), 3), ((-2, 4), 6), ((-9, -4, -5), 5), ((4, -2, 9), 11),
                               ((GREAT, -GREAT), 2 * GREAT), ((0,) * 15 + (1,), 1)):
            self.assertEqual(spread_of(counts), spread)


class SameAgainTest(unittest.TestCase):
    def test_nothing_changes(self):
        counts = (3, 1, 2)
        told = [(is_stair(counts), spread_of(counts), stair_of(6, 4)) for _ in range(2)]
        self.assertEqual(told, [(False, 2, (2, 2, 1, 1))] * 2)
        self.assertEqual(counts, (3, 1, 2))


if __name__ == "__main__":
    unittest.main()
