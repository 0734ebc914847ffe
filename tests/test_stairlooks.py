import copy
import itertools
import unittest

from samples import (ALIKE, BARE, CROSSED, FORK, FOUR, GREAT, HALF_BROKEN, LOOSE, NETS, ODD, ONE_LANE, TREE, TWICE,
                     Agreeing, Numbers, anything, counts_on, nested, somes, with_one_changed, wrong_books, wrong_rows)
from stairlanes.balls import passed
from stairlanes.counting import ends_of
from stairlanes.stairlooks import shows_break, shows_stair
from stairlanes.stairs import is_stair
from stairlanes.verdicts import verdict


def all_pairs(net):
    return [(turns, rest) for turns in itertools.product((0, 1), repeat=len(net[1])) for rest in range(net[0])]


def wrong_pairs(net, pair):
    """Things that are no pair of the net, made of one that is."""
    turns, rest = pair
    told = [list(pair), (turns,), (rest,), (turns, rest, 0), (rest, turns), turns, rest, (pair,), None, str(pair),
            {turns: rest}, (turns, None), (turns, (rest,)), (turns, [rest]), (turns, str(rest)), (turns, -1),
            (turns, rest + net[0]), (turns, rest - net[0]), (turns, net[0]), (turns, GREAT), (turns, Agreeing()),
            (turns, nested(58))]
    told += [(row, rest) for row in wrong_rows(turns)]
    told += [(with_one_changed(turns, place, 2), rest) for place in range(len(turns))]
    if rest in (0, 1):
        told.append((turns, bool(rest)))
    return told


class ShowsStairTest(unittest.TestCase):
    def test_by_hand(self):
        self.assertIs(shows_stair(ONE_LANE, (0,), (((), 0),)), True)
        book = (((0,), 0), ((1,), 1))
        for some in ((0,), (1,), (0, 1)):
            self.assertIs(shows_stair(FORK, some, book), True)
            self.assertIs(shows_stair(FORK, some, book[::-1]), True)
        self.assertIs(shows_stair((2, ((0, 1),), (1, 0)), (0, 1), book), False)
        self.assertIs(shows_stair((2, ((1, 0),), (1, 0)), (0, 1), book), True)

    def test_in_any_order(self):
        numbers = Numbers(71)
        book = verdict(FOUR, (0, 1, 2, 3), 99)[1]
        for _ in range(20):
            self.assertIs(shows_stair(FOUR, (0, 1, 2, 3), tuple(numbers.shuffled(book))), True)

    def test_for_some_lanes(self):
        book = (((0, 0, 0), 0), ((1, 1, 0), 1), ((0, 1, 1), 2), ((1, 0, 1), 3))
        for some, taken in (((0,), True), ((2,), True), ((0, 2), True), ((1,), False), ((0, 1), False), ((0, 3), False)):
            self.assertIs(shows_stair(TREE, some, book), taken)

    def test_a_book_for_all_lanes_is_one_for_some(self):
        book = verdict(FOUR, (0, 1, 2, 3), 99)[1]
        for some in somes(4):
            self.assertIs(shows_stair(FOUR, some, book), True)
        book = verdict(FOUR, (0,), 99)[1]
        self.assertIs(shows_stair(FOUR, (0,), book), True)
        self.assertIs(shows_stair(FOUR, (0, 1, 2, 3), book), False)

    def test_pairs_that_are_not_come_to_are_no_fault(self):
        book = (((0, 0), 0), ((1, 1), 1))
        more = (((1, 0), 0), ((0, 1), 1))
        self.assertIs(shows_stair(TWICE, (0, 1), book), True)
        self.assertIs(shows_stair(TWICE, (0, 1), book + more), True)
        self.assertIs(shows_stair(TWICE, (0, 1), more + book), True)
        for left in (book + more[:1], book + more[1:], more, book[:1] + more, book[1:] + more):
            self.assertIs(shows_stair(TWICE, (0, 1), left), False)

    def test_pairs_that_are_not_come_to_are_held_like_the_others(self):
        book = (((0,), 0), ((1,), 1))
        for pair in (((1,), 0), ((0,), 1)):
            self.assertIs(shows_stair(FORK, (0, 1), book + (pair,)), False)
        self.assertIs(shows_stair(FORK, (0, 1), book + (((1,), 0), ((0,), 1))), False)

    def test_each_set_of_pairs(self):
        for net in (ONE_LANE, FORK, TWICE, (2, ((1, 0),), (0, 1)), (2, ((0, 1),), (1, 0)), (2, (), (0, 1)), LOOSE):
            for some in somes(net[0]):
                for size in range(5):
                    for book in itertools.combinations(all_pairs(net), size):
                        self.assertIs(shows_stair(net, some, book), closed_by_hand(net, some, book), (net, some, book))

    def test_each_pair_of_a_told_book_is_needed(self):
        for net, some in ((FOUR, (0, 1, 2, 3)), (FOUR, (2,)), (TREE, (0,)), (TWICE, (0, 1))):
            book = verdict(net, some, 99)[1]
            for at in range(len(book)):
                self.assertIs(shows_stair(net, some, book[:at] + book[at + 1:]), False)

    def test_a_pair_that_leads_elsewhere(self):
        book = verdict(FOUR, (0, 1, 2, 3), 99)[1]
        for at, (turns, rest) in enumerate(book):
            for other in range(4):
                if other != rest:
                    self.assertIs(shows_stair(FOUR, (0, 1, 2, 3), with_one_changed(book, at, (turns, other))), False)
            for place in range(6):
                pair = (with_one_changed(turns, place, 1 - turns[place]), rest)
                self.assertIs(shows_stair(FOUR, (0, 1, 2, 3), with_one_changed(book, at, pair)), False)

    def test_no_book_of_a_net_that_breaks(self):
        for net in (BARE, LOOSE, CROSSED, HALF_BROKEN, (3, (), (0, 1, 2))):
            some = tuple(range(net[0]))
            self.assertIs(shows_stair(net, some, tuple(all_pairs(net))), False)

    def test_128_alike_forks(self):
        net = (2, ALIKE[1], (0, 1))
        book = (((0,) * 128, 0), ((1,) * 128, 1))
        self.assertIs(shows_stair(net, (0, 1), book), True)
        self.assertIs(shows_stair(ALIKE, (0, 1), book), False)
        self.assertIs(shows_stair(net, (0, 1), book[:1] + (((1,) * 127 + (True,), 1),)), False)

    def test_wrong_books(self):
        for net, some in ((ONE_LANE, (0,)), (FORK, (0, 1)), (TREE, (0,)), (FOUR, (0, 1, 2, 3))):
            book = verdict(net, some, 99)[1]
            wrong = [thing for pair in book for thing in wrong_pairs(net, pair)]
            for thing in wrong_books(book, wrong[:60] + wrong[-60:]):
                self.assertIs(shows_stair(net, some, thing), False, thing)
            for at, pair in enumerate(book):
                for thing in wrong_pairs(net, pair):
                    self.assertIs(shows_stair(net, some, with_one_changed(book, at, thing)), False, thing)

    def test_truths_are_no_numbers(self):
        self.assertIs(shows_stair(ONE_LANE, (0,), (((), False),)), False)
        self.assertIs(shows_stair(FORK, (0, 1), (((0,), 0), ((True,), 1))), False)
        self.assertIs(shows_stair(FORK, (0, 1), (((0,), 0), ((1,), True))), False)
        self.assertIs(shows_stair(FORK, (0, 1), (((False,), 0), ((1,), 1))), False)

    def test_anything(self):
        for net in NETS:
            for thing in anything():
                self.assertIs(shows_stair(net, (0,), thing), False, thing)
                self.assertIs(shows_stair(net, (0,), (thing, thing)), False, thing)
                self.assertIs(shows_stair(net, (0,), ((thing, 0),)), net == ONE_LANE and thing == (), thing)
            self.assertIs(shows_stair(net, (0,), Agreeing()), False)
            self.assertIs(shows_stair(net, (0,), (Agreeing(),)), False)


def led_by_hand(net, pair, lane):
    """The pair behind a ball, or None where it comes out elsewhere."""
    onward, end = passed(net, pair[0], lane)
    return (onward, (pair[1] + 1) % net[0]) if end == pair[1] else None


def closed_by_hand(net, some, book):
    return ((0,) * len(net[1]), 0) in book and all(led_by_hand(net, pair, lane) in book for pair in book for lane in some)


class PromiseTest(unittest.TestCase):
    def test_whoever_made_the_book(self):
        numbers = Numbers(72)
        for net in (TWICE, FOUR, TREE) + tuple(numbers.net(2, 4) for _ in range(30)):
            for some in somes(net[0]):
                # The greatest book there may be: all pairs, but such as break or lead to one that does.
                book, left = None, all_pairs(net)
                while book != left:
                    book = left
                    left = [pair for pair in book if all(led_by_hand(net, pair, lane) in book for lane in some)]
                taken = shows_stair(net, some, tuple(book))
                self.assertIs(taken, verdict(net, some, 10 ** 6)[0] == "stair")
                for low, high in ((-5, 5), (-GREAT, GREAT)):
                    mixed = numbers.counts(net[0], low, high)
                    counts = tuple(many if lane in some else 0 for lane, many in enumerate(mixed))
                    self.assertTrue(not taken or is_stair(ends_of(net, counts)))


class ShowsBreakTest(unittest.TestCase):
    def test_by_hand(self):
        self.assertIs(shows_break(BARE, (0, 1, 2, 3), (0, 0, 1, 0)), True)
        self.assertIs(shows_break(BARE, (0, 1, 2, 3), (0, 0, 0, 1)), False)
        self.assertIs(shows_break(BARE, (0, 1, 2, 3), (1, 1, 1, 1)), False)
        self.assertIs(shows_break(BARE, (0, 1, 2, 3), (0, 0, 0, 0)), False)
        self.assertIs(shows_break(BARE, (0, 1, 2, 3), (GREAT, 0, 0, 0)), True)
        self.assertIs(shows_break(TREE, (1,), (0, 2, 0, 0)), True)

    def test_not_the_fewest_or_the_first_either(self):
        for counts in ((0, 2, 0, 0), (3, 1, 0, 0), (0, 0, 9, 9), (6, 5, 5, 5)):
            self.assertIs(shows_break(BARE, (0, 1, 2, 3), counts), True)

    def test_nought_on_all_other_lanes(self):
        for some, taken in (((0, 1, 2, 3), True), ((2,), True), ((0, 2), True), ((0,), False), ((0, 1, 3), False)):
            self.assertIs(shows_break(BARE, some, (0, 0, 1, 0)), taken)
        self.assertIs(shows_break(TREE, (0, 1), (1, 2, 0, 0)), True)
        self.assertIs(shows_break(TREE, (1,), (1, 2, 0, 0)), False)

    def test_none_of_a_stair_net(self):
        for net in (ONE_LANE, FORK, FOUR):
            for balls in range(7):
                for counts in counts_on(net[0], range(net[0]), balls):
                    self.assertIs(shows_break(net, tuple(range(net[0])), counts), False)

    def test_as_told(self):
        numbers = Numbers(73)
        for net in NETS + tuple(numbers.net() for _ in range(60)):
            for some in somes(net[0]):
                for high in (1, 5, GREAT):
                    mixed = numbers.counts(net[0], 0, high)
                    counts = tuple(many if lane in some else 0 for lane, many in enumerate(mixed))
                    self.assertIs(shows_break(net, some, counts), not is_stair(ends_of(net, counts)))
                    others = any(many for lane, many in enumerate(mixed) if lane not in some)
                    self.assertIs(shows_break(net, some, mixed), not others and not is_stair(ends_of(net, mixed)))

    def test_below_nought(self):
        for counts in ((-1, 0, 0, 0), (0, 0, 1, -1), (0, -1, 0, 0), (5, 5, -GREAT, 4)):
            self.assertIs(is_stair(ends_of(BARE, counts)), False)
            self.assertIs(shows_break(BARE, (0, 1, 2, 3), counts), False)

    def test_wrong_counts(self):
        for net, some, counts in ((BARE, (0, 1, 2, 3), (0, 0, 1, 0)), (TREE, (0, 1), (1, 2, 0, 0)), (LOOSE, (0,), (2, 0, 0))):
            self.assertIs(shows_break(net, some, counts), True)
            for thing in wrong_rows(counts):
                self.assertIs(shows_break(net, some, thing), False, thing)

    def test_anything(self):
        for net in NETS:
            for thing in anything():
                self.assertIs(shows_break(net, (0,), thing), False, thing)
                self.assertIs(shows_break(net, (0,), (thing,) * net[0]), False, thing)
                self.assertIs(shows_break(net, (0,), (thing,) + (0,) * (net[0] - 1)), False, thing)
            self.assertIs(shows_break(net, (0,), Agreeing()), False)


class SameAgainTest(unittest.TestCase):
    def test_nothing_changes(self):
        book = verdict(FOUR, (0, 1, 2, 3), 99)[1]
        for thing in (book, list(book), [list(pair) for pair in book], [0, 0, 1, 0], (0, 0, 1, 0), {0: 1}):
            kept = copy.deepcopy(thing)
            for net, some in ((FOUR, (0, 1, 2, 3)), (BARE, (0, 1, 2, 3)), (ODD, (0,))):
                self.assertIs(shows_stair(net, some, thing), shows_stair(net, some, thing))
                self.assertIs(shows_break(net, some, thing), shows_break(net, some, thing))
            self.assertEqual(thing, kept)


if __name__ == "__main__":
    unittest.main()
