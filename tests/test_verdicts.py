import unittest

from samples import (ALIKE, BARE, CROSSED, FORK, FOUR, GREAT, HALF_BROKEN, LOOSE, NETS, ODD, ONE_LANE, TREE, TWICE, WIDE,
                     Numbers, counts_on, somes)
from stairlanes.balls import passed
from stairlanes.counting import ends_of, turns_of
from stairlanes.stairlooks import shows_break, shows_stair
from stairlanes.stairs import is_stair
from stairlanes.verdicts import verdict

OPEN = ("open", None)


def verdict_by_counts(net, some):
    """The verdict with no bound, and how many pairs are counted for it, out of all counts there are."""
    lanes = net[0]
    seen, book, balls = set(), [], 0
    while True:
        come = {(turns_of(net, counts), balls % lanes) for counts in counts_on(lanes, some, balls)}
        level = sorted(come - seen)
        if not level:
            return ("stair", tuple(book)), len(seen)
        seen |= come
        book += level
        balls += 1
        broken = [counts for counts in counts_on(lanes, some, balls) if not is_stair(ends_of(net, counts))]
        if broken:
            return ("breaks", min(broken)), len(seen)


def small_nets(numbers, many):
    """Mixed small nets, and such as come near a stair net, so that some break late."""
    return [numbers.net(4, 6) for _ in range(many)] + [numbers.near((FOUR, TREE, CROSSED)) for _ in range(many)]


class ByHandTest(unittest.TestCase):
    def test_one_lane(self):
        self.assertEqual(verdict(ONE_LANE, (0,), 1), ("stair", (((), 0),)))
        self.assertEqual(verdict(ONE_LANE, (0,), GREAT), ("stair", (((), 0),)))

    def test_one_fork(self):
        book = (((0,), 0), ((1,), 1))
        for some in ((0,), (1,), (0, 1)):
            self.assertEqual(verdict(FORK, some, 2), ("stair", book))
        self.assertEqual(verdict(TWICE, (0, 1), 2), ("stair", (((0, 0), 0), ((1, 1), 1))))

    def test_no_fork(self):
        self.assertEqual(verdict(BARE, (0, 1, 2, 3), 1), ("breaks", (0, 0, 1, 0)))
        self.assertEqual(verdict(BARE, (0, 1), 1), ("breaks", (0, 1, 0, 0)))
        self.assertEqual(verdict(BARE, (3,), 2), ("breaks", (0, 0, 0, 2)))
        self.assertEqual(verdict(BARE, (3,), 1), OPEN)

    def test_the_ends_the_other_way(self):
        self.assertEqual(verdict((2, ((0, 1),), (1, 0)), (0, 1), 9), ("breaks", (0, 1)))
        self.assertEqual(verdict((2, ((1, 0),), (1, 0)), (0, 1), 9)[0], "stair")

    def test_four_lanes(self):
        book = (((0, 0, 0, 0, 0, 0), 0),
                ((0, 1, 0, 1, 1, 0), 1), ((1, 0, 1, 0, 1, 0), 1),
                ((0, 0, 1, 1, 0, 0), 2), ((1, 1, 1, 1, 0, 0), 2),
                ((0, 1, 1, 0, 0, 1), 3), ((1, 0, 0, 1, 0, 1), 3),
                ((1, 1, 0, 0, 0, 0), 0))
        self.assertEqual(verdict(FOUR, (0, 1, 2, 3), 8), ("stair", book))
        self.assertEqual(verdict(FOUR, (0, 1, 2, 3), 7), OPEN)

    def test_a_stair_net_for_some_lanes_alone(self):
        book = (((0, 0, 0), 0), ((1, 1, 0), 1), ((0, 1, 1), 2), ((1, 0, 1), 3))
        self.assertEqual(verdict(TREE, (0,), 4), ("stair", book))
        self.assertEqual(verdict(TREE, (0,), 3), OPEN)
        self.assertEqual(verdict(TREE, (0, 1), 9), ("breaks", (0, 2, 0, 0)))
        self.assertEqual(verdict(TREE, (1,), 9), ("breaks", (0, 2, 0, 0)))
        self.assertEqual(verdict(TREE, (0, 2), 4), ("stair", book))
        self.assertEqual(verdict(TREE, (0, 1, 2, 3), 9), ("breaks", (0, 0, 0, 1)))

    def test_the_first_counts_as_tuples_rise(self):
        self.assertEqual(verdict((3, ((1, 2), (0, 1), (1, 2)), (0, 1, 2)), (0, 1, 2), 99), ("breaks", (2, 0, 1)))
        net = (4, ((2, 3), (1, 2), (1, 0), (3, 0), (2, 3), (1, 3)), (1, 2, 3, 0))
        self.assertEqual(verdict(net, (0, 1, 2, 3), 99), ("breaks", (1, 0, 0, 2)))

    def test_a_level_that_breaks_is_counted_whole(self):
        self.assertEqual(verdict(HALF_BROKEN, (0, 1, 2), 3), ("breaks", (0, 0, 2)))
        self.assertEqual(verdict(HALF_BROKEN, (0, 1, 2), 4), ("breaks", (0, 0, 2)))
        for most in (1, 2):
            self.assertEqual(verdict(HALF_BROKEN, (0, 1, 2), most), OPEN)

    def test_what_comes_behind_a_level_that_breaks_is_not_counted(self):
        self.assertEqual(verdict(BARE, (0, 1, 2, 3), 1)[0], "breaks")
        self.assertEqual(verdict(LOOSE, (0, 1, 2), 1), ("breaks", (0, 0, 1)))

    def test_most_stops_a_long_way(self):
        self.assertEqual(verdict(ALIKE, (0, 1), 1), ("breaks", (0, 1)))
        net = (16, tuple((0, lane) for lane in range(1, 16)) * 8, tuple(range(16)))
        for most in (1, 2, 40):
            self.assertEqual(verdict(net, (0,), most)[0], verdict_of_one_lane(net, 0, most))

    def test_128_alike_forks(self):
        net = (2, ((0, 1),) * 128, (0, 1))
        self.assertEqual(verdict(net, (0, 1), 2), ("stair", (((0,) * 128, 0), ((1,) * 128, 1))))


def verdict_of_one_lane(net, lane, most):
    """The word of the verdict for one lane, on which the pairs stand in one chain."""
    pair, seen = ((0,) * len(net[1]), 0), set()
    while pair not in seen:
        seen.add(pair)
        if len(seen) > most:
            return "open"
        turns, end = passed(net, pair[0], lane)
        if end != pair[1]:
            return "breaks"
        pair = (turns, (pair[1] + 1) % net[0])
    return "stair"


class AsToldTest(unittest.TestCase):
    def test_by_all_counts(self):
        numbers = Numbers(61)
        words = []
        for net in [ONE_LANE, FORK, TWICE, LOOSE, BARE, TREE, CROSSED, HALF_BROKEN] + small_nets(numbers, 40):
            for some in somes(net[0]):
                told = verdict(net, some, 10 ** 6)
                wanted, many = verdict_by_counts(net, some)
                self.assertEqual(told, wanted, (net, some))
                words.append(told[0])
                for most in (many, many + 1, 2 * many):
                    self.assertEqual(verdict(net, some, most), wanted, (net, some))
                for most in {1, many // 2, many - 1} - {0}:
                    self.assertEqual(verdict(net, some, most), OPEN if most < many else wanted, (net, some))
        self.assertGreater(words.count("stair"), 20)
        self.assertGreater(words.count("breaks"), 100)

    def test_levels_in_which_pairs_rise(self):
        for net, some in ((FOUR, (0, 1, 2, 3)), (FOUR, (1, 2)), (TREE, (0,))):
            book = verdict(net, some, 99)[1]
            self.assertEqual(book, verdict_by_counts(net, some)[0][1])
            self.assertEqual(book[0], ((0,) * len(net[1]), 0))

    def test_kinds(self):
        word, book = verdict(FOUR, (0, 1, 2, 3), 99)
        self.assertIsInstance(book, tuple)
        for pair in book:
            self.assertIsInstance(pair, tuple)
            self.assertEqual([type(thing) for thing in pair], [tuple, int])
            self.assertEqual({type(turn) for turn in pair[0]}, {int})
        word, counts = verdict(BARE, (0, 1, 2, 3), 99)
        self.assertEqual([type(counts)] + [type(many) for many in counts], [tuple] + [int] * 4)

    def test_a_book_is_taken_and_so_are_counts(self):
        numbers = Numbers(62)
        for net in NETS + (TREE, CROSSED, HALF_BROKEN) + tuple(small_nets(numbers, 60)):
            for some in somes(net[0])[:6]:
                word, thing = verdict(net, some, 300)
                if word == "stair":
                    self.assertIs(shows_stair(net, some, thing), True)
                elif word == "breaks":
                    self.assertIs(shows_break(net, some, thing), True)
                else:
                    self.assertIsNone(thing)


class PromiseTest(unittest.TestCase):
    def test_a_stair_for_all_counts_of_either_sign(self):
        numbers = Numbers(63)
        found = 0
        for net in [ONE_LANE, FORK, TWICE, FOUR, TREE] + small_nets(numbers, 80):
            for some in somes(net[0]):
                if verdict(net, some, 1000)[0] != "stair":
                    continue
                found += 1
                for low, high in ((0, 5), (-9, 9), (-100, 0), (-GREAT, GREAT)):
                    mixed = numbers.counts(net[0], low, high)
                    counts = tuple(many if lane in some else 0 for lane, many in enumerate(mixed))
                    self.assertTrue(is_stair(ends_of(net, counts)), (net, some, counts))
        self.assertGreater(found, 40)

    def test_else_it_does_for_all_counts_of_fewer_balls(self):
        numbers = Numbers(64)
        for net in small_nets(numbers, 60):
            some = tuple(range(net[0]))
            word, counts = verdict(net, some, 1000)
            if word == "breaks" and sum(counts) < 9:
                self.assertFalse(is_stair(ends_of(net, counts)))
                for balls in range(sum(counts)):
                    self.assertTrue(all(is_stair(ends_of(net, fewer)) for fewer in counts_on(net[0], some, balls)))


class SameAgainTest(unittest.TestCase):
    def test_the_same_is_told_again(self):
        for net in (ODD, FOUR, WIDE, HALF_BROKEN):
            some = (0, 1, 2)
            told = [verdict(net, some, most) for most in (50, 1, 50, 1)]
            self.assertEqual(told[:2], told[2:])
            self.assertEqual(some, (0, 1, 2))


if __name__ == "__main__":
    unittest.main()
