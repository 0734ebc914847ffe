"""The whole promise: what holds over all modules together."""

import unittest

from samples import (BARE, CROSSED, FORK, FOUR, GREAT, NETS, ODD, ONE_LANE, TREE, TWICE, Numbers, anything, counts_on, layered,
                     places_by_counts)
from stairlanes.balls import passed, passed_back
from stairlanes.barlooks import shows_bar
from stairlanes.bars import bar
from stairlanes.comparing import compared
from stairlanes.counting import ends_of, turns_of
from stairlanes.desk import Desk
from stairlanes.errors import LaneError, NoDeed, NoGroup, NoLine, NotEven, NoText
from stairlanes.joining import behind, beside, doubled, renamed
from stairlanes.knowing import known_by
from stairlanes.mergelooks import shows_merge
from stairlanes.merging import merge_verdict, merges
from stairlanes.nets import depth, is_net, plain
from stairlanes.pacing import ran
from stairlanes.plans import made_by
from stairlanes.reaching import reach
from stairlanes.reachlooks import shows_reach
from stairlanes.reading import read_counts, read_net
from stairlanes.scenes import begun, done
from stairlanes.sharing import is_even, shares
from stairlanes.showing import show_counts, show_net
from stairlanes.stairlooks import shows_break, shows_stair
from stairlanes.stairs import is_stair, spread_of, stair_of
from stairlanes.tellers import Teller
from stairlanes.verdicts import verdict
from stairlanes.ways import merger, rounds, stairway, tree
from stairlanes.weaving import is_still, put_in, woven

SIZES = ((0, 4), (-9, 9), (-GREAT, GREAT))


def all_of(net):
    return tuple(range(net[0]))


def weaving_to_still(numbers, net):
    """A row of deeds, in mixed order, behind which no group is left."""
    scene, deeds = begun(net), []
    puts = 1 + numbers.below(6)
    while puts or scene[1]:
        groups = scene[1]
        pairs = [(j, k) for k in range(len(groups)) for j in range(k) if groups[j][1:] == groups[k][1:]]
        if puts and (numbers.below(3) == 0 or not groups):
            deed = ("put", numbers.below(net[0]), numbers.pick((1, -1, 2, -2, 5, -7)))
            puts -= 1
        elif pairs and numbers.below(2):
            deed = ("join",) + numbers.pick(pairs)
        else:
            deed = ("step", numbers.below(len(groups)))
        scene = done(net, scene, deed)
        deeds.append(deed)
    return tuple(deeds)


class WeavingsTest(unittest.TestCase):
    def test_turns_and_ends_are_those_of_the_counts_alone(self):
        numbers = Numbers(351)
        for net in (ONE_LANE, FORK, FOUR, ODD, BARE, stairway(3)) + tuple(numbers.net() for _ in range(60)):
            deeds = weaving_to_still(numbers, net)
            scene, counts = woven(net, deeds), put_in(net, deeds)
            self.assertTrue(is_still(scene))
            self.assertEqual(scene, (turns_of(net, counts), (), ends_of(net, counts)))
            desk = Desk(show_net(net))
            for deed in deeds:
                self.assertEqual(desk.say(" ".join(str(word) for word in deed)), "done")
            self.assertEqual(desk.say("out"), desk.say(f"ends {show_counts(counts)}"))
            self.assertEqual(desk.say("still"), "yes")

    def test_a_ball_back_undoes_a_ball(self):
        numbers = Numbers(352)
        for net in NETS + tuple(numbers.net() for _ in range(60)):
            turns = numbers.counts(len(net[1]), 0, 1)
            for lane in range(net[0]):
                there, end = passed(net, turns, lane)
                self.assertEqual(passed_back(net, there, lane), (turns, end))


class StairNetsTest(unittest.TestCase):
    def nets(self, numbers):
        told = [ONE_LANE, FORK, TWICE, FOUR, TREE, CROSSED, BARE, rounds(2)] + [numbers.net(4, 7) for _ in range(60)]
        return told + [numbers.near([FOUR, rounds(2), stairway(2)]) for _ in range(40)]

    def test_by_a_book_or_by_counts_that_break_it(self):
        numbers = Numbers(353)
        for net in self.nets(numbers):
            for some in {all_of(net), (0,), all_of(net)[::2]}:
                word, found = verdict(net, some, 10 ** 4)
                if word == "stair":
                    self.assertIs(shows_stair(net, some, found), True)
                    self.assertTrue(bar(net) is None or some != all_of(net))
                    for low, high in SIZES:
                        counts = [many * (lane in some) for lane, many in enumerate(numbers.counts(net[0], low, high))]
                        self.assertTrue(is_stair(ends_of(net, tuple(counts))))
                else:
                    self.assertIs(shows_break(net, some, found), True)
                    self.assertFalse(is_stair(ends_of(net, found)))
                    for balls in range(sum(found)):
                        for counts in counts_on(net[0], some, balls):
                            self.assertTrue(is_stair(ends_of(net, counts)))

    def test_told_ways(self):
        for k in range(5):
            lanes = 2 ** k
            for net, deep in ((stairway(k), k * (k + 1) // 2), (rounds(k), k * k)):
                self.assertEqual((net[0], depth(net), 2 * len(net[1])), (lanes, deep, lanes * deep))
                self.assertEqual(net, plain(net))
                self.assertTrue(k > 3 or verdict(net, all_of(net), 10 ** 4)[0] == "stair")
            self.assertEqual((depth(tree(k)), len(tree(k)[1])), (k, lanes - 1))
            self.assertEqual(verdict(tree(k), (0,), 10 ** 4)[0], "stair")
            if k:
                self.assertEqual((depth(merger(k)), 2 * len(merger(k)[1])), (k, lanes * k))
                self.assertEqual(merge_verdict(merger(k), 10 ** 4)[0], "merges")

    def test_a_stair_net_behind_any_net_a_doubled_one_and_what_a_plan_tells(self):
        numbers = Numbers(354)
        for _ in range(40):
            ahead = numbers.near([FOUR, CROSSED, TREE])
            stair = numbers.pick((FOUR, rounds(2), renamed(FOUR, tuple(numbers.shuffled(range(4))))))
            net = behind(ahead, stair)
            self.assertEqual(verdict(net, all_of(net), 10 ** 4)[0], "stair")
            plan = ("behind", ("net", ahead), numbers.pick((("stairway", 2), ("rounds", 2), ("doubled", ("merger", 1)))))
            self.assertEqual(known_by(plan), "stair")
            self.assertEqual(verdict(made_by(plan), all_of(net), 10 ** 4)[0], "stair")
        twice = doubled(behind(CROSSED, FOUR))
        self.assertEqual(verdict(twice, all_of(twice), 10 ** 5)[0], "stair")

    def test_joined_nets_let_balls_through_as_the_nets_that_they_are_made_of(self):
        numbers = Numbers(355)
        for _ in range(60):
            one, other = numbers.net(), numbers.net()
            for low, high in SIZES:
                counts, more = numbers.counts(one[0], low, high), numbers.counts(other[0], low, high)
                self.assertEqual(ends_of(beside(one, other), counts + more), ends_of(one, counts) + ends_of(other, more))
                self.assertEqual(ends_of(behind(one, plain(one)), counts), ends_of(one, ends_of(one, counts)))


class SharesTest(unittest.TestCase):
    def test_so_many_balls_more_are_the_shares_more(self):
        numbers = Numbers(356)
        for net in NETS + tuple(numbers.net() for _ in range(40)):
            for lane in range(net[0]):
                counts = numbers.counts(net[0], -9, 9)
                more = tuple(many + 2 ** depth(net) * (lane == at) for at, many in enumerate(counts))
                wanted = tuple(map(sum, zip(ends_of(net, counts), shares(net)[lane])))
                self.assertEqual(ends_of(net, more), wanted)

    def test_even_nets_stay_near_and_how_far_apart_is_told(self):
        numbers = Numbers(357)
        for net in [FORK, FOUR, CROSSED, TREE, BARE, ODD] + [numbers.near([FOUR, CROSSED]) for _ in range(40)]:
            if not is_even(net, all_of(net)):
                self.assertRaises(NotEven, reach, net, all_of(net), 9)
                continue
            word, far, counts = reach(net, all_of(net), 10 ** 5)
            self.assertEqual(spread_of(ends_of(net, counts)), far)
            book = tuple(place for level in places_by_counts(net, all_of(net)) for place in level)
            self.assertIs(shows_reach(net, all_of(net), far, book), True)
            for low, high in SIZES:
                self.assertLessEqual(spread_of(ends_of(net, numbers.counts(net[0], low, high))), far)
            for balls in range(sum(counts)):
                self.assertTrue(all(spread_of(ends_of(net, fewer)) < far for fewer in counts_on(net[0], all_of(net), balls)))


class MergingTest(unittest.TestCase):
    def test_by_a_book_or_by_stairs_that_break_it(self):
        numbers = Numbers(358)
        for net in [merger(2), merger(3), FOUR, TREE, BARE, CROSSED] + [numbers.near([merger(2), FOUR]) for _ in range(60)]:
            word, found = merge_verdict(net, 10 ** 4)
            half = net[0] // 2
            if word == "merges":
                self.assertIs(shows_merge(net, found), True)
                for high in (9, GREAT):
                    m, n = numbers.below(high), numbers.below(high)
                    self.assertTrue(merges(net, m, n) and is_stair(ends_of(net, stair_of(m, half) + stair_of(n, half))))
            else:
                self.assertIs(merges(net, *found), False)
                self.assertTrue(all(merges(net, m, balls - m) for balls in range(sum(found)) for m in range(balls + 1)))


class NumbersTest(unittest.TestCase):
    def test_unlike_and_of_a_stair_net_all_from_0_on(self):
        numbers = Numbers(359)
        for net in NETS + (stairway(3), rounds(4)) + tuple(numbers.net() for _ in range(40)):
            runs = tuple((numbers.below(net[0]), numbers.below(50), 1 + numbers.below(9)) for _ in range(numbers.below(30)))
            given = sorted(number for number, end, moment in ran(net, runs))
            self.assertEqual(len(set(given)), len(runs))
            teller = Teller(net)
            for lane, start, pace in runs:
                teller.start(lane)
            while teller.way():
                teller.step(numbers.pick(teller.way()))
            # The same balls are given the same numbers together, whoever of them comes first.
            self.assertEqual(teller.given(), tuple(given))
            if net in (ONE_LANE, FORK, FOUR, stairway(3), rounds(4)):
                self.assertEqual(given, list(range(len(runs))))


class BarsTest(unittest.TestCase):
    def test_no_net_that_a_bar_is_told_of_is_a_stair_net(self):
        numbers = Numbers(360)
        for net in [numbers.net(4, 8) for _ in range(120)] + [numbers.near([FOUR,
                                                                            rounds(2)]) for _ in range(60)] + [layered(4, 3)]:
            told, word = bar(net), verdict(net, all_of(net), 10 ** 4)[0]
            self.assertTrue(told is None or (word == "breaks" and shows_bar(net, told)))
            if word == "stair":
                row = numbers.counts(net[0], -GREAT, GREAT)
                self.assertEqual(compared(net, row), tuple(sorted(row, reverse=True)))


class TextsTest(unittest.TestCase):
    def test_what_is_written_is_read_as_it_was(self):
        numbers = Numbers(361)
        for net in NETS + tuple(numbers.net(16, 128) for _ in range(40)):
            self.assertEqual(read_net(show_net(net)), net)
            self.assertIs(is_net(read_net(show_net(net))), True)
            self.assertEqual(Desk(show_net(net)).say("net"), show_net(net))
            counts = numbers.counts(net[0], -GREAT, GREAT)
            self.assertEqual(read_counts(show_counts(counts)), counts)


class RefusalsTest(unittest.TestCase):
    def test_each_is_of_just_its_class_with_its_value(self):
        desk = Desk(show_net(FORK))
        asked = ((NoDeed, "place", 0, lambda: done(FORK, begun(FORK), ("step", -1))),
                 (NoGroup, "place", 0, lambda: done(FORK, begun(FORK), ("step", 0))),
                 (NoDeed, "place", 1, lambda: woven(FORK, (("put", 0, 1), None))),
                 (NoGroup, "place", 2, lambda: woven(FORK, (("put", 0, 1), ("put", 1, 1), ("join", 0, 1)))),
                 (NoDeed, "place", 0, lambda: Teller(FORK).start(2)), (NoDeed, "place", 0, lambda: Teller(FORK).step(0)),
                 (NotEven, None, None, lambda: reach(BARE, (0,), 9)), (NoText, "row", 1, lambda: read_net("lanes 2\n")),
                 (NoText, "row", 0, lambda: read_counts("1,")), (NoText, "row", 2, lambda: Desk("lanes 2\n0 1\nends 0")),
                 (NoGroup, "place", 0, lambda: desk.say("step 0")), (NoLine, None, None, lambda: desk.say("step -1")))
        for refusal, name, value, ask in asked:
            with self.assertRaises(LaneError) as caught:
                ask()
            self.assertIs(type(caught.exception), refusal)
            self.assertEqual(refusal.__bases__, (LaneError,))
            self.assertTrue(name is None or getattr(caught.exception, name) == value)

    def test_of_anything_no_other_error_comes(self):
        desk = Desk(show_net(FORK))
        for thing in [thing for thing in anything() if thing != "0"]:
            for refusal, ask in ((NoDeed, lambda: done(FORK, begun(FORK), thing)), (NoDeed, lambda: woven(FORK, (thing,))),
                                 (NoText, lambda: read_net(thing)), (NoText, lambda: read_counts(thing)),
                                 (NoText, lambda: Desk(thing)),
                                 (NoLine, lambda: desk.say(thing)), (NoDeed, lambda: Teller(FORK).start(thing))):
                with self.assertRaises(LaneError) as caught:
                    ask()
                self.assertIs(type(caught.exception), refusal)


if __name__ == "__main__":
    unittest.main()
