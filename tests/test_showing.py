import copy
import unittest

from samples import ALIKE, BARE, FORK, GREAT, LOOSE, NETS, ODD, ONE_LANE, WIDE, Numbers
from stairlanes.counting import ends_of
from stairlanes.sharing import shares
from stairlanes.showing import show_counts, show_net
from stairlanes.ways import rounds, stairway


class ShowNetTest(unittest.TestCase):
    def test_by_hand(self):
        self.assertEqual(show_net(FORK), "lanes 2\n0 1\nends 0 1")
        self.assertEqual(show_net(LOOSE), "lanes 3\n2 0\nends 1 2 0")
        self.assertEqual(show_net(ODD), "lanes 5\n3 1\n0 4\n1 0\n3 1\n4 2\n1 3\n0 4\nends 2 4 0 3 1")

    def test_without_forks(self):
        self.assertEqual(show_net(ONE_LANE), "lanes 1\nends 0")
        self.assertEqual(show_net(BARE), "lanes 4\nends 3 1 0 2")

    def test_numbers_of_two_figures(self):
        net = (16, ((10, 9), (15, 0)), tuple(range(15, -1, -1)))
        self.assertEqual(show_net(net), "lanes 16\n10 9\n15 0\nends 15 14 13 12 11 10 9 8 7 6 5 4 3 2 1 0")

    def test_forks_as_they_stand(self):
        self.assertEqual(show_net((4, ((2, 3), (1, 0)), (0, 1, 2, 3))), "lanes 4\n2 3\n1 0\nends 0 1 2 3")

    def test_128_forks(self):
        self.assertEqual(show_net(ALIKE), "lanes 2\n" + "0 1\n" * 128 + "ends 1 0")

    def test_row_by_row(self):
        numbers = Numbers(231)
        for net in NETS + (rounds(4), stairway(4)) + tuple(numbers.net() for _ in range(40)):
            rows = show_net(net).split("\n")
            self.assertEqual(len(rows), len(net[1]) + 2)
            self.assertEqual(rows[0].split(" "), ["lanes", str(net[0])])
            self.assertEqual([row.split(" ") for row in rows[1:-1]], [[str(a), str(b)] for a, b in net[1]])
            self.assertEqual(rows[-1].split(" "), ["ends"] + [str(lane) for lane in net[2]])


class ShowCountsTest(unittest.TestCase):
    def test_by_hand(self):
        self.assertEqual(show_counts((1, 2, 3)), "1,2,3")
        self.assertEqual(show_counts((10, 0, -7, -10)), "10,0,-7,-10")

    def test_counts_of_one(self):
        for many, text in ((0, "0"), (5, "5"), (-5, "-5"), (100, "100")):
            self.assertEqual(show_counts((many,)), text)

    def test_noughts(self):
        self.assertEqual(show_counts((0, 0, 0)), "0,0,0")

    def test_thirty_figures(self):
        self.assertEqual(show_counts((GREAT, -GREAT)), "9" * 30 + ",-" + "9" * 30)
        self.assertEqual(show_counts((10 ** 29, 0)), "1" + "0" * 29 + ",0")

    def test_what_was_told_whatever_its_size(self):
        self.assertEqual(show_counts(shares(ALIKE)[0]), f"{2 ** 127},{2 ** 127}")

    def test_ends(self):
        self.assertEqual(show_counts(ends_of(FORK, (5, -2))), "2,1")
        self.assertEqual(show_counts(ends_of(WIDE, (0,) * 16)), ",".join("0" * 16))


class SameAgainTest(unittest.TestCase):
    def test_nothing_changes(self):
        for net in (ODD, WIDE, ONE_LANE):
            kept = copy.deepcopy(net)
            self.assertEqual(show_net(net), show_net(net))
            self.assertEqual(net, kept)
        counts = (3, -4, 0)
        self.assertEqual(show_counts(counts), show_counts(counts))
        self.assertEqual(counts, (3, -4, 0))


if __name__ == "__main__":
    unittest.main()
