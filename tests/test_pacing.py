import copy
import unittest

from samples import (ALIKE, BARE, CROSSED, FORK, FOUR, GREAT, LOOSE, NETS, ODD, ONE_LANE, TREE, WIDE, Agreeing, Numbers, anything,
                     layered, nested, with_one_changed, wrong_rows)
from stairlanes.balls import passed
from stairlanes.counting import ends_of
from stairlanes.nets import on_lane
from stairlanes.pacing import are_runs, crossed, ran
from stairlanes.ways import rounds, stairway

# Nets in which each ball passes as many forks, whatever way it goes.
ALIKE_WAYS = (ONE_LANE, FORK, FOUR, BARE, CROSSED, layered(6, 3), (2, ((0, 1), (1, 0)), (1, 0)), stairway(3), rounds(3),
              stairway(4))


def ran_by_hand(net, runs):
    """All moments at which something is done, in their order; what each ball does there."""
    turns, spots, came = [0] * len(net[1]), {}, [0] * net[0]
    told = [None] * len(runs)
    for place, (lane, start, pace) in enumerate(runs):
        spots[place] = (start, place, lane, -1)
    while spots:
        moment, place, lane, behind = sorted(spots.values())[0]
        ahead = [number for number in on_lane(net, lane) if number > behind]
        if ahead:
            lane = net[1][ahead[0]][turns[ahead[0]]]
            turns[ahead[0]] ^= 1
            spots[place] = (moment + runs[place][2], place, lane, ahead[0])
        else:
            end = net[2].index(lane)
            told[place] = (end + net[0] * came[end], end, moment)
            came[end] += 1
            del spots[place]
    return tuple(told)


def mixed_runs(numbers, net, most, starts=30, paces=6):
    return tuple((numbers.below(net[0]), numbers.below(starts), 1 + numbers.below(paces)) for _ in range(numbers.below(most + 1)))


def one_by_one(net, runs):
    """The numbers where the balls come one by one, by rising starts, of like ones by places."""
    turns, came, told = (0,) * len(net[1]), [0] * net[0], {}
    for start, place in sorted((run[1], place) for place, run in enumerate(runs)):
        turns, end = passed(net, turns, runs[place][0])
        told[place] = end + net[0] * came[end]
        came[end] += 1
    return [told[place] for place in range(len(runs))]


class AreRunsTest(unittest.TestCase):
    def test_runs(self):
        for net in NETS:
            self.assertIs(are_runs(net, ()), True)
            self.assertIs(are_runs(net, ((0, 0, 1),)), True)
            self.assertIs(are_runs(net, ((net[0] - 1, 7, 3), (0, 7, 3), (0, 7, 3))), True)

    def test_none_to_sixty(self):
        for many in range(66):
            self.assertIs(are_runs(FORK, ((1, 2, 3),) * many), many <= 60)

    def test_lanes(self):
        for net in NETS:
            for lane in range(-2, 18):
                self.assertIs(are_runs(net, ((lane, 0, 1),)), 0 <= lane < net[0])

    def test_starts_from_0_paces_from_1(self):
        for number in (-GREAT, -2, -1, 0, 1, 2, 10 ** 29, GREAT):
            self.assertIs(are_runs(FORK, ((0, number, 1),)), number >= 0)
            self.assertIs(are_runs(FORK, ((0, 0, number),)), number >= 1)

    def test_thirty_figures_and_thirty_one(self):
        self.assertIs(are_runs(FORK, ((0, GREAT, GREAT),)), True)
        for number in (GREAT + 1, 10 ** 31, 10 ** 60):
            self.assertIs(are_runs(FORK, ((0, number, 1),)), False)
            self.assertIs(are_runs(FORK, ((0, 0, number),)), False)

    def test_wrong_runs(self):
        good = (1, 5, 2)
        wrong = wrong_rows(good) + [(1, 5), (1,), (), (1, 5, 2, 2), ((1, 5, 2),), (True, 5, 2), (1, True, 2), (1, False, 2),
                                    (1, 5, True),
                                    (1, 5, False), ("1", 5, 2), (1, "5", 2), (1, 5, "2"), (None, 5, 2), (1, None, 2),
                                    (1, 5, None), (1, 5, 0), (1, -1, 2), (2, 5, 2), [1, 5, 2], (1, (5,), 2), "1 5 2"]
        for thing in wrong:
            for runs in ((thing,), (good, thing), (thing, good), (good,) * 59 + (thing,)):
                self.assertIs(are_runs(FORK, runs), False, thing)
        self.assertIs(are_runs(FORK, (good,) * 60), True)

    def test_no_tuple(self):
        good = (1, 5, 2)
        for thing in ([good], {good}, {good: 1}, good, list(good), [list(good)], iter((good,)), str((good,)), None,
                      (good, None), "", b"", [], {}, set(), 0):
            self.assertIs(are_runs(FORK, thing), False, thing)

    def test_anything(self):
        for net in (FORK, ONE_LANE, WIDE):
            for thing in anything() + [Agreeing()]:
                if thing != ():
                    self.assertIs(are_runs(net, thing), False, thing)
                for run in (thing, (thing, 0, 1), (0, thing, 1), (0, 0, thing), (thing,) * 3, (0, 0, 1, thing)):
                    if run != (0, 0, 1):
                        self.assertIs(are_runs(net, (run,)), False, run)
            self.assertIs(are_runs(net, nested(60)), False)
            self.assertIs(are_runs(net, ((0, nested(58), 1),)), False)


class RanTest(unittest.TestCase):
    def test_none(self):
        for net in NETS:
            self.assertEqual(ran(net, ()), ())

    def test_out_a_pace_behind_the_last_fork(self):
        self.assertEqual(ran(FORK, ((0, 5, 3),)), ((0, 0, 8),))
        self.assertEqual(ran(FOUR, ((0, 5, 3),)), ((0, 0, 14),))
        self.assertEqual(ran(ODD, ((4, 10, 1),)), ((4, 4, 14),))
        self.assertEqual(ran(ALIKE, ((1, 0, 1),)), ((1, 1, 128),))
        self.assertEqual(ran(ALIKE, ((1, 7, 10),)), ((1, 1, 1287),))

    def test_a_ball_that_meets_no_fork(self):
        self.assertEqual(ran(ONE_LANE, ((0, 0, 1),)), ((0, 0, 0),))
        self.assertEqual(ran(ONE_LANE, ((0, 9, GREAT),)), ((0, 0, 9),))
        self.assertEqual(ran(LOOSE, ((1, 4, 7), (0, 4, 7), (1, 3, 2))), ((3, 0, 4), (1, 1, 11), (0, 0, 3)))
        self.assertEqual(ran(BARE, ((0, 1, 1), (0, 0, 5), (3, 1, 1))), ((6, 2, 1), (2, 2, 0), (0, 0, 1)))

    def test_a_fork_s_turns_go_by_moments(self):
        self.assertEqual(ran(FORK, ((0, 1, 1), (0, 0, 1))), ((1, 1, 2), (0, 0, 1)))
        self.assertEqual(ran(FORK, ((0, 0, 100), (1, 1, 1), (1, 3, 1))), ((2, 0, 100), (1, 1, 2), (0, 0, 4)))

    def test_numbers_go_by_the_moment_at_which_a_ball_is_out(self):
        self.assertEqual(ran(FORK, ((0, 0, 9), (0, 1, 1), (0, 2, 1), (0, 3, 1))), ((2, 0, 9), (1, 1, 2), (0, 0, 3), (3, 1, 4)))

    def test_what_falls_on_one_moment_by_rising_places(self):
        self.assertEqual(ran(FORK, ((1, 5, 2), (0, 5, 2), (1, 5, 2))), ((0, 0, 7), (1, 1, 7), (2, 0, 7)))
        self.assertEqual(ran(ONE_LANE, ((0, 4, 1), (0, 4, 2), (0, 3, 1), (0, 4, 3))),
                         ((1, 0, 4), (2, 0, 4), (0, 0, 3), (3, 0, 4)))
        # Each passes the fork at another moment, and both come out on lane 0 at one.
        self.assertEqual(ran(FORK, ((0, 2, 3), (0, 0, 5), (0, 1, 1))), ((0, 0, 5), (2, 0, 5), (1, 1, 2)))
        self.assertEqual(ran(FORK, ((0, 0, 5), (0, 1, 1), (0, 2, 3))), ((0, 0, 5), (1, 1, 2), (2, 0, 5)))
        # Its second fork and the start of the other fall on one moment.
        net = (3, ((0, 2), (0, 1)), (0, 1, 2))
        self.assertEqual(ran(net, ((0, 0, 4), (1, 4, 1))), ((0, 0, 8), (1, 1, 5)))
        self.assertEqual(ran(net, ((1, 4, 1), (0, 0, 4))), ((0, 0, 5), (1, 1, 8)))

    def test_starts_alike(self):
        self.assertEqual(ran(FOUR, ((2, 0, 1),) * 6), tuple((place, place % 4, 3) for place in range(6)))

    def test_paces_of_thirty_figures(self):
        self.assertEqual(ran(FOUR, ((0, GREAT, GREAT),)), ((0, 0, 4 * GREAT),))
        told = ran(FOUR, ((0, 0, GREAT), (0, 1, 1), (0, GREAT, 1), (0, 2, GREAT)))
        self.assertEqual(told, ran_by_hand(FOUR, ((0, 0, GREAT), (0, 1, 1), (0, GREAT, 1), (0, 2, GREAT))))
        self.assertEqual([moment for number, end, moment in told], [3 * GREAT, 4, GREAT + 3, 3 * GREAT + 2])

    def test_sixty(self):
        numbers = Numbers(341)
        for net in (FOUR, WIDE, ODD, stairway(4)):
            runs = tuple((numbers.below(net[0]), numbers.below(40), 1 + numbers.below(9)) for _ in range(60))
            self.assertEqual(ran(net, runs), ran_by_hand(net, runs))

    def test_mixed(self):
        numbers = Numbers(342)
        for _ in range(250):
            net = numbers.net()
            runs = mixed_runs(numbers, net, 14, numbers.pick((1, 4, 30)), numbers.pick((1, 3, 20)))
            told = ran(net, runs)
            self.assertEqual(told, ran_by_hand(net, runs), (net, runs))
            self.assertTrue(all(type(part) is tuple and len(part) == 3 for part in told))
            self.assertIs(type(told), tuple)


class CrossedTest(unittest.TestCase):
    def test_by_hand(self):
        runs = ((0, 0, 100), (0, 1, 1), (0, 3, 1))
        self.assertEqual([number for number, end, moment in ran(FORK, runs)], [2, 1, 0])
        self.assertEqual(crossed(FORK, runs), ((1, 2),))
        self.assertEqual(crossed(FORK, runs[:2]), ())
        self.assertEqual(crossed(FORK, ()), ())

    def test_out_at_a_moment_just_that_of_the_start(self):
        for start, wanted in ((2, ()), (3, ((1, 2),)), (4, ((1, 2),))):
            self.assertEqual(crossed(FORK, ((0, 0, 100), (0, 1, 1), (0, start, 1))), wanted)
        self.assertEqual(crossed(BARE, ((2, 5, 1), (3, 5, 1))), ())
        self.assertEqual(crossed(BARE, ((2, 5, 1), (3, 6, 1))), ((0, 1),))

    def test_the_lesser_number_is_no_fault(self):
        self.assertEqual(crossed(BARE, ((3, 5, 1), (2, 6, 1))), ())
        self.assertEqual(crossed(ONE_LANE, ((0, 3, 1), (0, 2, 1), (0, 1, 1))), ())

    def test_the_later_place_may_be_out_first(self):
        self.assertEqual(crossed(BARE, ((3, 6, 1), (2, 5, 1))), ((1, 0),))

    def test_rising(self):
        runs = ((3, 9, 1), (2, 0, 1), (2, 1, 1), (1, 9, 1), (0, 5, 1))
        self.assertEqual([number for number, end, moment in ran(BARE, runs)], [0, 3, 7, 1, 2])
        self.assertEqual(crossed(BARE, runs), ((1, 0), (1, 3), (1, 4), (2, 0), (2, 3), (2, 4), (4, 0), (4, 3)))

    def test_mixed(self):
        numbers = Numbers(343)
        found = 0
        for _ in range(250):
            net = numbers.net()
            runs = mixed_runs(numbers, net, 14, numbers.pick((4, 30)), numbers.pick((1, 3, 20)))
            told = ran_by_hand(net, runs)
            pairs = [(i, j) for i in range(len(runs)) for j in range(len(runs))]
            wanted = [(i, j) for i, j in pairs if told[i][2] < runs[j][1] and told[i][0] > told[j][0]]
            self.assertEqual(crossed(net, runs), tuple(sorted(wanted)))
            found += len(wanted)
        self.assertGreater(found, 100)

    def test_of_a_stair_net_too(self):
        runs = ((0, 0, 1), (0, 1, 100), (0, 2, 1), (0, 10, 1), (0, 20, 1), (0, 30, 1))
        self.assertEqual([number for number, end, moment in ran(FOUR, runs)], [0, 5, 2, 1, 4, 3])
        self.assertEqual(crossed(FOUR, runs), ((2, 3), (4, 5)))


class WholeTest(unittest.TestCase):
    def test_numbers_are_unlike_at_whatever_paces(self):
        numbers = Numbers(344)
        for net in NETS + tuple(numbers.net() for _ in range(120)):
            runs = mixed_runs(numbers, net, 30, numbers.pick((1, 9, 99)), numbers.pick((1, 4, GREAT)))
            told = ran(net, runs)
            given = [number for number, end, moment in told]
            self.assertEqual(len(set(given)), len(runs))
            self.assertTrue(all(number % net[0] == end for number, end, moment in told))
            counts = tuple(sum(run[0] == lane for run in runs) for lane in range(net[0]))
            ends = ends_of(net, counts)
            self.assertEqual(sorted(given), sorted(end + net[0] * k for end in range(net[0]) for k in range(ends[end])))

    def test_of_a_stair_net_all_from_0_on(self):
        numbers = Numbers(345)
        for net in (ONE_LANE, FORK, FOUR, stairway(3), rounds(3), stairway(4), rounds(4)):
            for _ in range(12):
                runs = mixed_runs(numbers, net, 60, numbers.pick((1, 9, 99)), numbers.pick((1, 4, GREAT)))
                self.assertEqual(sorted(number for number, end, moment in ran(net, runs)), list(range(len(runs))))

    def test_of_one_pace_as_if_the_balls_came_one_by_one(self):
        numbers = Numbers(346)
        for net in ALIKE_WAYS:
            for pace in (1, 2, 7, GREAT):
                for starts in (1, 5, 100):
                    lanes_and_starts = mixed_runs(numbers, net, 30, starts, 1)
                    runs = tuple((lane, start, pace) for lane, start, one in lanes_and_starts)
                    self.assertEqual([number for number, end, moment in ran(net, runs)], one_by_one(net, runs))

    def test_of_one_pace_a_stair_net_crosses_none(self):
        numbers = Numbers(347)
        for net in (ONE_LANE, FORK, FOUR, stairway(3), rounds(3), stairway(4), rounds(4)):
            for pace in (1, 5):
                runs = tuple((lane, start, pace) for lane, start, one in mixed_runs(numbers, net, 60, 200, 1))
                self.assertEqual(crossed(net, runs), ())

    def test_of_unlike_ways_not_so(self):
        # A ball on lane 1 passes one fork, one on lane 0 two, so it is there later than its start tells.
        runs = ((0, 0, 10), (1, 1, 10))
        self.assertNotEqual([number for number, end, moment in ran(TREE, runs)], one_by_one(TREE, runs))


class SameAgainTest(unittest.TestCase):
    def test_nothing_changes(self):
        runs = ((0, 0, 100), (0, 1, 1), (3, 3, 1))
        kept = copy.deepcopy((FOUR, runs))
        for ask in (are_runs, ran, crossed):
            self.assertEqual(ask(FOUR, runs), ask(FOUR, runs))
        self.assertEqual((FOUR, runs), kept)
        for thing in ([[0, 0, 1]], ([0, 0, 1],)):
            kept = copy.deepcopy(thing)
            self.assertIs(are_runs(FOUR, thing), False)
            self.assertEqual(thing, kept)

    def test_each_change_of_a_run_counts(self):
        runs = ((0, 0, 3), (0, 1, 3), (1, 2, 3))
        told = ran(FORK, runs)
        for other in ((0, 5, 3), (0, 0, 9)):
            self.assertNotEqual(ran(FORK, with_one_changed(runs, 0, other)), told)


if __name__ == "__main__":
    unittest.main()
