import unittest

from samples import ALIKE, BARE, CROSSED, FORK, FOUR, GREAT, NETS, TREE, TWICE, Numbers
from stairlanes.balls import passed
from stairlanes.counting import ends_of, turns_of
from stairlanes.merging import merge_verdict, merges
from stairlanes.mergelooks import shows_merge
from stairlanes.stairs import is_stair, stair_of
from stairlanes.ways import merger, rounds, stairway, tree

OPEN = ("open", None)
BARE_TWO = (2, (), (0, 1))


def counts_of(net, m, n):
    """Counts of m and n balls put one by one on the lanes of each half."""
    half = net[0] // 2
    counts = [0] * net[0]
    for ball in range(m):
        counts[ball % half] += 1
    for ball in range(n):
        counts[half + ball % half] += 1
    return tuple(counts)


def merges_by_hand(net, m, n):
    return is_stair(ends_of(net, counts_of(net, m, n)))


def merge_verdict_by_counts(net):
    """The verdict with no bound, and how many knots are counted for it, out of all m and n."""
    lanes = net[0]
    seen, book, balls = set(), [], 0
    while True:
        come = {(turns_of(net, counts_of(net, m, balls - m)), m % lanes, (balls - m) % lanes) for m in range(balls + 1)}
        level = sorted(come - seen)
        if not level:
            return ("merges", tuple(book)), len(seen)
        seen |= come
        book += level
        balls += 1
        for m in range(balls + 1):
            if not merges_by_hand(net, m, balls - m):
                return ("breaks", (m, balls - m)), len(seen)


def two_half_nets(numbers, many):
    """Mixed nets of 2, 4 and 6 lanes, and such as come near a merger, so that some break late."""
    told = []
    while len(told) < many:
        net = numbers.net(6, 8)
        if net[0] % 2 == 0:
            told.append(net)
    return told + [numbers.near((merger(2), FOUR, merger(3), TWICE, rounds(2))) for _ in range(many)]


class ByHandTest(unittest.TestCase):
    def test_of_two_lanes(self):
        book = (((0,), 0, 0), ((1,), 0, 1), ((1,), 1, 0), ((0,), 1, 1))
        self.assertEqual(merge_verdict(FORK, 4), ("merges", book))
        self.assertEqual(merge_verdict(FORK, 5), ("merges", book))
        for most in (1, 3):
            self.assertEqual(merge_verdict(FORK, most), OPEN)
        self.assertEqual(merge_verdict((2, ((0, 1),), (1, 0)), 1), ("breaks", (0, 1)))

    def test_without_forks(self):
        self.assertEqual(merge_verdict(BARE_TWO, 1), ("breaks", (0, 1)))
        self.assertEqual(merge_verdict((2, (), (1, 0)), 1), ("breaks", (1, 0)))
        self.assertEqual(merge_verdict((4, (), (0, 1, 2, 3)), 1), ("breaks", (0, 1)))
        self.assertEqual(merge_verdict(BARE, 9), ("breaks", (0, 1)))

    def test_of_four_lanes(self):
        word, book = merge_verdict(merger(2), 16)
        self.assertEqual((word, len(book)), ("merges", 16))
        self.assertEqual(book[:3], (((0, 0, 0, 0), 0, 0), ((0, 1, 1, 0), 0, 1), ((1, 0, 1, 0), 1, 0)))
        self.assertEqual(merge_verdict(merger(2), 15), OPEN)
        self.assertEqual(merge_verdict(merger(2), 17), ("merges", book))

    def test_the_least_m(self):
        for net, broken in (((4, ((0, 2), (0, 1)), (0, 2, 1, 3)), (0, 2)), ((4, ((2, 0),), (2, 3, 1, 0)), (1, 2)),
                            ((4, ((0, 3), (1, 2), (0, 1)), (0, 1, 3, 2)), (0, 2)),
                            ((8, merger(3)[1][:7] + ((5, 7),) + merger(3)[1][8:], merger(3)[2]), (1, 3, 5))):
            word, (m, n) = merge_verdict(net, 99)
            self.assertEqual(tuple(one for one in range(m + n + 1) if not merges_by_hand(net, one, m + n - one)), broken)
            self.assertEqual((word, m), ("breaks", broken[0]))

    def test_a_level_that_breaks_is_counted_whole(self):
        # Of the two knots of the second level one breaks, that behind a ball of the first half.
        self.assertEqual([merges_by_hand(TREE, m, 2 - m) for m in range(3)], [True, True, False])
        for most in (3, 4):
            self.assertEqual(merge_verdict(TREE, most), ("breaks", (2, 0)))
        for most in (1, 2):
            self.assertEqual(merge_verdict(TREE, most), OPEN)

    def test_128_alike_forks(self):
        net = (2, ((0, 1),) * 128, (0, 1))
        self.assertEqual(merge_verdict(net, 4)[0], "merges")
        self.assertEqual(merge_verdict(ALIKE, 4), ("breaks", (0, 1)))


class AsToldTest(unittest.TestCase):
    def test_by_all_counts(self):
        numbers = Numbers(131)
        words, late = [], 0
        for net in [FORK, TWICE, BARE, FOUR, TREE, CROSSED, merger(2), merger(3)] + two_half_nets(numbers, 60):
            wanted, many = merge_verdict_by_counts(net)
            words.append(wanted[0])
            late += many > 3 and wanted[0] == "breaks"
            for most in (many, many + 1, 10 ** 6):
                self.assertEqual(merge_verdict(net, most), wanted, net)
            for most in {1, many // 2, many - 1} - {0}:
                self.assertEqual(merge_verdict(net, most), OPEN if most < many else wanted, net)
        self.assertGreater(words.count("merges"), 10)
        self.assertGreater(late, 5)

    def test_a_book_is_taken(self):
        numbers = Numbers(132)
        for net in [FORK, TWICE, FOUR] + [merger(k) for k in range(1, 5)] + two_half_nets(numbers, 60):
            word, thing = merge_verdict(net, 10 ** 4)
            if word == "merges":
                self.assertIs(shows_merge(net, thing), True)
            else:
                self.assertEqual(word, "breaks")
                self.assertIs(merges(net, thing[0], thing[1]), False)

    def test_kinds(self):
        word, book = merge_verdict(merger(2), 99)
        self.assertIsInstance(book, tuple)
        for knot in book:
            self.assertEqual([type(thing) for thing in knot], [tuple, int, int])
        word, pair = merge_verdict(BARE, 99)
        self.assertEqual([type(pair)] + [type(many) for many in pair], [tuple, int, int])


class PromiseTest(unittest.TestCase):
    def test_told_to_merge_it_does_for_all(self):
        numbers = Numbers(133)
        for net in [FORK, TWICE, FOUR, stairway(3)] + [merger(k) for k in range(1, 5)] + two_half_nets(numbers, 80):
            if merge_verdict(net, 10 ** 4)[0] == "merges":
                for high in (4, 40, GREAT):
                    for _ in range(10):
                        self.assertIs(merges(net, numbers.below(high), numbers.below(high)), True)

    def test_else_it_does_for_all_of_fewer_balls(self):
        numbers = Numbers(134)
        for net in two_half_nets(numbers, 80):
            word, pair = merge_verdict(net, 10 ** 4)
            if word == "breaks":
                self.assertFalse(merges_by_hand(net, pair[0], pair[1]))
                for balls in range(sum(pair)):
                    self.assertTrue(all(merges_by_hand(net, m, balls - m) for m in range(balls + 1)))
                self.assertTrue(all(merges_by_hand(net, m, sum(pair) - m) for m in range(pair[0])))


class MergesTest(unittest.TestCase):
    def test_by_hand(self):
        self.assertIs(merges(BARE_TWO, 0, 0), True)
        self.assertIs(merges(BARE_TWO, 1, 0), True)
        self.assertIs(merges(BARE_TWO, 2, 0), False)
        self.assertIs(merges(BARE_TWO, 0, 1), False)
        self.assertIs(merges(BARE_TWO, 3, 2), True)
        self.assertIs(merges((4, (), (0, 1, 2, 3)), 2, 0), True)
        self.assertIs(merges((4, (), (0, 1, 2, 3)), 3, 0), False)
        self.assertIs(merges((4, (), (0, 1, 2, 3)), 3, 2), True)

    def test_none_on_one_half(self):
        for many in (0, 1, 2, 5, 16, GREAT):
            for k in range(1, 5):
                self.assertIs(merges(merger(k), many, 0), True)
                self.assertIs(merges(merger(k), 0, many), True)
            self.assertIs(merges(TREE, 0, many), is_stair(ends_of(TREE, (0, 0) + stair_of(many, 2))))

    def test_as_told(self):
        numbers = Numbers(135)
        for net in [net for net in NETS if net[0] % 2 == 0] + two_half_nets(numbers, 40):
            for _ in range(10):
                m, n = numbers.below(12), numbers.below(12)
                self.assertIs(merges(net, m, n), merges_by_hand(net, m, n))
            m, n = numbers.below(GREAT), numbers.below(GREAT)
            self.assertIs(merges(net, m, n), is_stair(ends_of(net, stair_of(m, net[0] // 2) + stair_of(n, net[0] // 2))))

    def test_balls_come_one_by_one(self):
        net = merger(3)
        turns, came = (0,) * len(net[1]), [0, 0]
        numbers = Numbers(136)
        for ball in range(80):
            half = numbers.below(2)
            turns, end = passed(net, turns, half * 4 + came[half] % 4)
            came[half] += 1
            self.assertEqual(end, ball % 8)


class SameAgainTest(unittest.TestCase):
    def test_the_same_is_told_again(self):
        for net in (FOUR, BARE, merger(3), tree(3)):
            told = [(merge_verdict(net, most), merges(net, 3, 4)) for most in (50, 1, 50, 1)]
            self.assertEqual(told[:2], told[2:])


if __name__ == "__main__":
    unittest.main()
