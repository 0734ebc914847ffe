import copy
import itertools
import unittest

from samples import (ALIKE, BARE, CROSSED, FORK, FOUR, GREAT, NETS, TREE, TWICE, Agreeing, Numbers, anything, nested,
                     with_one_changed, wrong_books, wrong_rows)
from stairlanes.balls import passed
from stairlanes.mergelooks import shows_merge
from stairlanes.merging import merge_verdict, merges
from stairlanes.ways import merger, stairway


def all_knots(net):
    rests = list(itertools.product(range(net[0]), repeat=2))
    return [(turns,) + rest for turns in itertools.product((0, 1), repeat=len(net[1])) for rest in rests]


def led_by_hand(net, knot, half):
    """The knot behind a ball of the half, or None where it comes out elsewhere."""
    turns, m, n = knot
    width = net[0] // 2
    onward, end = passed(net, turns, (m % width, width + n % width)[half])
    if end != (m + n) % net[0]:
        return None
    return onward, (m + (half == 0)) % net[0], (n + (half == 1)) % net[0]


def closed_by_hand(net, book):
    return ((0,) * len(net[1]), 0, 0) in book and all(led_by_hand(net, knot, half) in book for knot in book for half in (0, 1))


def wrong_knots(net, knot):
    """Things that are no knot of the net, made of one that is."""
    turns, m, n = knot
    told = [list(knot), (turns, m), (turns,), (m, n), (turns, m, n, 0), (turns, (m, n)), (m, n, turns), (knot,), None, turns,
            str(knot), {turns: m}, (None, m, n)]
    for at, rest in ((1, m), (2, n)):
        for thing in (None, str(rest), (rest,), [rest], -1, rest + net[0], rest - net[0], net[0], GREAT, Agreeing(), nested(58)):
            told.append(with_one_changed(knot, at, thing))
        if rest in (0, 1):
            told.append(with_one_changed(knot, at, bool(rest)))
    told += [(row, m, n) for row in wrong_rows(turns)]
    told += [(with_one_changed(turns, place, 2), m, n) for place in range(len(turns))]
    return told


class ShowsMergeTest(unittest.TestCase):
    def test_by_hand(self):
        book = (((0,), 0, 0), ((1,), 0, 1), ((1,), 1, 0), ((0,), 1, 1))
        self.assertIs(shows_merge(FORK, book), True)
        self.assertIs(shows_merge(FORK, book[::-1]), True)
        self.assertIs(shows_merge((2, ((0, 1),), (1, 0)), book), False)
        self.assertIs(shows_merge((2, ((1, 0),), (1, 0)), book), True)
        self.assertIs(shows_merge((2, (), (0, 1)), (((), 0, 0),)), False)

    def test_told_books(self):
        for net in [merger(k) for k in range(1, 5)] + [stairway(k) for k in range(1, 5)] + [FOUR, TWICE]:
            self.assertIs(shows_merge(net, merge_verdict(net, 10 ** 4)[1]), True)

    def test_in_any_order(self):
        numbers = Numbers(141)
        book = merge_verdict(merger(2), 99)[1]
        for _ in range(20):
            self.assertIs(shows_merge(merger(2), tuple(numbers.shuffled(book))), True)

    def test_knots_that_are_not_come_to_are_no_fault(self):
        book = (((0, 0), 0, 0), ((1, 1), 1, 0), ((1, 1), 0, 1), ((0, 0), 1, 1))
        more = (((1, 0), 0, 0), ((0, 1), 1, 0), ((0, 1), 0, 1), ((1, 0), 1, 1))
        self.assertIs(shows_merge(TWICE, book), True)
        self.assertIs(shows_merge(TWICE, book + more), True)
        self.assertIs(shows_merge(TWICE, more + book), True)
        self.assertIs(shows_merge(TWICE, more), False)
        for at in range(4):
            self.assertIs(shows_merge(TWICE, book + more[:at] + more[at + 1:]), False)
            self.assertIs(shows_merge(TWICE, book[:at] + book[at + 1:] + more), False)

    def test_each_set_of_knots(self):
        for net in (FORK, (2, ((1, 0),), (0, 1)), (2, ((0, 1),), (1, 0)), (2, (), (0, 1)), (2, (), (1, 0))):
            for size in range(7):
                for book in itertools.combinations(all_knots(net), size):
                    self.assertIs(shows_merge(net, book), closed_by_hand(net, book), (net, book))

    def test_each_knot_of_a_told_book_is_needed(self):
        for net in (FORK, TWICE, merger(2), FOUR):
            book = merge_verdict(net, 99)[1]
            for at in range(len(book)):
                self.assertIs(shows_merge(net, book[:at] + book[at + 1:]), False)
                self.assertIs(shows_merge(net, book + (book[at],)), False)

    def test_a_knot_that_leads_elsewhere(self):
        net = merger(2)
        book = merge_verdict(net, 99)[1]
        for at, (turns, m, n) in enumerate(book):
            others = [(turns, (m + 1) % 4, n), (turns, m, (n + 2) % 4), (turns, (m + 1) % 4, (n + 3) % 4)]
            others += [(with_one_changed(turns, place, 1 - turns[place]), m, n) for place in range(4)]
            for other in others:
                self.assertIs(shows_merge(net, with_one_changed(book, at, other)), False)

    def test_no_book_of_a_net_that_breaks(self):
        for net in (BARE, TREE, CROSSED, (2, (), (0, 1)), (4, merger(2)[1][:3], merger(2)[2])):
            self.assertIs(shows_merge(net, tuple(all_knots(net))), False)

    def test_whoever_made_the_book(self):
        numbers = Numbers(142)
        nets = [net for net in [numbers.net(4, 4) for _ in range(60)] if net[0] % 2 == 0]
        for net in nets + [TWICE, merger(2)]:
            # The greatest book there may be: all knots, but such as break or lead to one that does.
            book, left = None, set(all_knots(net))
            while book != left:
                book = left
                left = {knot for knot in book if all(led_by_hand(net, knot, half) in book for half in (0, 1))}
            taken = shows_merge(net, tuple(sorted(book)))
            self.assertIs(taken, merge_verdict(net, 10 ** 5)[0] == "merges")
            for high in (9, GREAT):
                self.assertTrue(not taken or merges(net, numbers.below(high), numbers.below(high)))

    def test_128_alike_forks(self):
        net = (2, ALIKE[1], (0, 1))
        book = merge_verdict(net, 4)[1]
        self.assertIs(shows_merge(net, book), True)
        self.assertIs(shows_merge(ALIKE, book), False)

    def test_wrong_books(self):
        for net in (FORK, merger(2), FOUR):
            book = merge_verdict(net, 99)[1]
            wrong = [thing for knot in book for thing in wrong_knots(net, knot)]
            for thing in wrong_books(book, wrong[:60] + wrong[-60:]):
                self.assertIs(shows_merge(net, thing), False, thing)
            for at, knot in enumerate(book):
                for thing in wrong_knots(net, knot):
                    self.assertIs(shows_merge(net, with_one_changed(book, at, thing)), False, thing)

    def test_truths_are_no_numbers(self):
        book = (((0,), 0, 0), ((1,), 0, 1), ((1,), 1, 0), ((0,), 1, 1))
        for at, knot in ((0, ((False,), 0, 0)), (0, ((0,), False, 0)), (1, ((1,), 0, True)), (2, ((True,), 1, 0)),
                         (3, ((0,), True, 1))):
            self.assertIs(shows_merge(FORK, with_one_changed(book, at, knot)), False)

    def test_anything(self):
        for net in [net for net in NETS if net[0] % 2 == 0]:
            first = (0,) * len(net[1])
            for thing in anything():
                self.assertIs(shows_merge(net, thing), False, thing)
                self.assertIs(shows_merge(net, (thing, thing)), False, thing)
                self.assertIs(shows_merge(net, ((thing, 0, 0),)), False, thing)
                self.assertIs(shows_merge(net, ((first, thing, 0),)), False, thing)
                self.assertIs(shows_merge(net, ((first, 0, thing),)), False, thing)
            self.assertIs(shows_merge(net, Agreeing()), False)
            self.assertIs(shows_merge(net, (Agreeing(),)), False)


class SameAgainTest(unittest.TestCase):
    def test_nothing_changes(self):
        book = merge_verdict(merger(2), 99)[1]
        for thing in (book, list(book), [list(knot) for knot in book], {0: 1}):
            kept = copy.deepcopy(thing)
            for net in (merger(2), BARE, FORK):
                self.assertIs(shows_merge(net, thing), shows_merge(net, thing))
            self.assertEqual(thing, kept)


if __name__ == "__main__":
    unittest.main()
