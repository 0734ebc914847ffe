import copy
import itertools
import unittest

from samples import (ALIKE, BARE, CROSSED, FORK, FOUR, GREAT, LOOSE, NETS, ODD, ONE_LANE, TREE, TWICE, Agreeing, Numbers,
                     anything, nested, places_by_counts, somes, with_one_changed, wrong_books, wrong_rows)
from stairlanes.balls import passed
from stairlanes.reachlooks import shows_reach


def book_of(net, some):
    return tuple(place for level in places_by_counts(net, some) for place in sorted(level))


def wrong_places(net, place):
    """Things that are no place of the net, made of one that is."""
    turns, heights = place
    raised = tuple(height + 1 for height in heights)
    lowered = tuple(height - 1 for height in heights)
    told = [list(place), (turns,), (heights,), (turns, heights, 0), turns, heights, (place,), None, str(place),
            {turns: heights}, (turns, None), (turns, (heights,)), (turns, 0), (turns, raised), (turns, lowered),
            (turns, str(heights)), (turns, Agreeing()), (turns, nested(58)), (nested(58), heights)]
    told += [(row, heights) for row in wrong_rows(turns)] + [(turns, row) for row in wrong_rows(heights)]
    told += [(with_one_changed(turns, at, 2), heights) for at in range(len(turns))]
    return told


def closed_by_hand(net, some, far, book):
    if ((0,) * len(net[1]), (0,) * net[0]) not in book:
        return False
    for turns, heights in book:
        if max(heights) > far:
            return False
        for lane in some:
            onward, end = passed(net, turns, lane)
            more = with_one_changed(heights, end, heights[end] + 1)
            if (onward, tuple(height - min(more) for height in more)) not in book:
                return False
    return True


class ShowsReachTest(unittest.TestCase):
    def test_by_hand(self):
        self.assertIs(shows_reach(ONE_LANE, (0,), 0, (((), (0,)),)), True)
        self.assertIs(shows_reach(ONE_LANE, (0,), -1, (((), (0,)),)), False)
        book = (((0,), (0, 0)), ((1,), (1, 0)))
        for some in ((0,), (1,), (0, 1)):
            for far in (1, 2, GREAT):
                self.assertIs(shows_reach(FORK, some, far, book), True)
                self.assertIs(shows_reach(FORK, some, far, book[::-1]), True)
            for far in (0, -1, -GREAT):
                self.assertIs(shows_reach(FORK, some, far, book), False)
        other = (((0,), (0, 0)), ((1,), (0, 1)))
        self.assertIs(shows_reach(FORK, (0, 1), 1, other), False)
        self.assertIs(shows_reach((2, ((0, 1),), (1, 0)), (0, 1), 1, other), True)

    def test_places_that_are_not_come_to_are_no_fault(self):
        book = (((0,), (0, 0)), ((1,), (1, 0)))
        more = (((0,), (0, 1)), ((1,), (0, 0)))
        self.assertIs(shows_reach(FORK, (0, 1), 1, book + more), True)
        self.assertIs(shows_reach(FORK, (0, 1), 1, more + book), True)
        self.assertIs(shows_reach(FORK, (0, 1), 0, book + more), False)
        for left in (book + more[:1], book + more[1:], more, book[:1] + more, book[1:] + more):
            self.assertIs(shows_reach(FORK, (0, 1), 1, left), False)

    def test_they_are_not_above_far_either(self):
        book = (((0,), (0, 0)), ((1,), (1, 0)), ((0,), (5, 0)), ((1,), (6, 0)))
        self.assertIs(shows_reach(FORK, (0, 1), 6, book), True)
        self.assertIs(shows_reach(FORK, (0, 1), 5, book), False)
        high = book[:2] + (((0,), (GREAT - 1, 0)), ((1,), (GREAT, 0)))
        self.assertIs(shows_reach(FORK, (0, 1), GREAT, high), True)
        self.assertIs(shows_reach(FORK, (0, 1), GREAT - 1, high), False)

    def test_the_least_of_the_heights_is_nought(self):
        book = (((0,), (0, 0)), ((1,), (1, 0)))
        for place in (((0,), (1, 1)), ((1,), (2, 1)), ((0,), (-1, 0)), ((1,), (0, -1))):
            self.assertIs(shows_reach(FORK, (0, 1), 9, book + (place,)), False)

    def test_in_any_order(self):
        numbers = Numbers(91)
        book = book_of(CROSSED, (0, 1, 2, 3))
        for _ in range(20):
            self.assertIs(shows_reach(CROSSED, (0, 1, 2, 3), 2, tuple(numbers.shuffled(book))), True)
            self.assertIs(shows_reach(CROSSED, (0, 1, 2, 3), 1, tuple(numbers.shuffled(book))), False)

    def test_for_some_lanes(self):
        book = book_of(TREE, (0,))
        for some, taken in (((0,), True), ((2,), True), ((0, 2), True), ((1,), False), ((0, 1), False), ((0, 3), False)):
            self.assertIs(shows_reach(TREE, some, 1, book), taken)

    def test_each_set_of_places(self):
        for net in (ONE_LANE, FORK, TWICE, (2, ((1, 0),), (0, 1)), (2, (), (0, 1)), (2, (), (1, 0))):
            heights = [row for row in itertools.product(range(3), repeat=net[0]) if min(row) == 0]
            places = list(itertools.product(itertools.product((0, 1), repeat=len(net[1])), heights))
            for size in range(4):
                for book in itertools.combinations(places, size):
                    for far in (0, 1, 2):
                        for some in somes(net[0]):
                            wanted = closed_by_hand(net, some, far, book)
                            self.assertIs(shows_reach(net, some, far, book), wanted, (net, some, far, book))

    def test_each_place_is_needed(self):
        for net, some in ((FOUR, (0, 1, 2, 3)), (CROSSED, (0, 1, 2, 3)), (TREE, (0,)), (TWICE, (0, 1))):
            book = book_of(net, some)
            self.assertIs(shows_reach(net, some, 2, book), True)
            for at in range(len(book)):
                self.assertIs(shows_reach(net, some, 2, book[:at] + book[at + 1:]), False)
                self.assertIs(shows_reach(net, some, 2, book + (book[at],)), False)

    def test_a_place_that_leads_elsewhere(self):
        book = book_of(CROSSED, (0, 1, 2, 3))
        for at, (turns, heights) in enumerate(book):
            for place in range(4):
                other = (with_one_changed(turns, place, 1 - turns[place]), heights)
                self.assertIs(shows_reach(CROSSED, (0, 1, 2, 3), 9, with_one_changed(book, at, other)), False)
                other = (turns, with_one_changed(heights, place, heights[place] + 1))
                self.assertIs(shows_reach(CROSSED, (0, 1, 2, 3), 9, with_one_changed(book, at, other)), False)

    def test_of_a_net_that_is_not_even(self):
        for net in (BARE, LOOSE, (2, (), (0, 1))):
            some = tuple(range(net[0]))
            places = itertools.product((0, 1), repeat=len(net[1]))
            rows = [row for row in itertools.product(range(4), repeat=net[0]) if min(row) == 0]
            book = tuple(itertools.product(places, rows))
            for far in (0, 1, 3, GREAT):
                self.assertIs(shows_reach(net, some, far, book), False)
                self.assertIs(shows_reach(net, some, far, book[:1]), False)

    def test_128_alike_forks(self):
        book = (((0,) * 128, (0, 0)), ((1,) * 128, (0, 1)))
        self.assertIs(shows_reach(ALIKE, (0, 1), 1, book), True)
        self.assertIs(shows_reach(ALIKE, (0, 1), 0, book), False)

    def test_wrong_books(self):
        for net, some in ((ONE_LANE, (0,)), (FORK, (0, 1)), (TREE, (0,)), (CROSSED, (0, 1, 2, 3))):
            book = book_of(net, some)
            wrong = [thing for place in book for thing in wrong_places(net, place)]
            for thing in wrong_books(book, wrong[:60] + wrong[-60:]):
                self.assertIs(shows_reach(net, some, 9, thing), False, thing)
            for at, place in enumerate(book):
                for thing in wrong_places(net, place):
                    self.assertIs(shows_reach(net, some, 9, with_one_changed(book, at, thing)), False, thing)

    def test_truths_are_no_numbers(self):
        self.assertIs(shows_reach(ONE_LANE, (0,), 1, (((), (False,)),)), False)
        for place in (((True,), (1, 0)), ((1,), (True, 0)), ((1,), (1, False))):
            self.assertIs(shows_reach(FORK, (0, 1), 1, (((0,), (0, 0)), place)), False)

    def test_anything(self):
        for net in NETS:
            for thing in anything():
                self.assertIs(shows_reach(net, (0,), 9, thing), False, thing)
                self.assertIs(shows_reach(net, (0,), 9, (thing, thing)), False, thing)
                self.assertIs(shows_reach(net, (0,), 9, (((0,) * len(net[1]), thing),)), net == ONE_LANE and thing == (0,))
            self.assertIs(shows_reach(net, (0,), 9, Agreeing()), False)
            self.assertIs(shows_reach(net, (0,), 9, (Agreeing(),)), False)


class SameAgainTest(unittest.TestCase):
    def test_nothing_changes(self):
        book = book_of(FOUR, (0, 1, 2, 3))
        for thing in (book, list(book), [list(place) for place in book], {0: 1}):
            kept = copy.deepcopy(thing)
            for net, some in ((FOUR, (0, 1, 2, 3)), (BARE, (0, 1, 2, 3)), (ODD, (0,))):
                self.assertIs(shows_reach(net, some, 1, thing), shows_reach(net, some, 1, thing))
            self.assertEqual(thing, kept)


if __name__ == "__main__":
    unittest.main()
