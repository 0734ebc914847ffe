import unittest

from samples import ALIKE, BARE, FOUR, LOOSE, NETS, ODD, ONE_LANE, WIDE, Numbers, anything
from stairlanes.balls import passed
from stairlanes.counting import ends_of, turns_of
from stairlanes.errors import LaneError, NoDeed
from stairlanes.tellers import Teller

FORK = (2, ((0, 1),), (0, 1))


def let_out(teller, ball):
    """Steps the ball until it is out; how many steps it took, and its number."""
    steps, number = 1, teller.step(ball)
    while number is None:
        steps, number = steps + 1, teller.step(ball)
    return steps, number


def seen(teller):
    return teller.way(), teller.given(), teller.turns()


class TellerTest(unittest.TestCase):
    def refused(self, ask, thing):
        with self.assertRaises(LaneError) as caught:
            ask(thing)
        self.assertIs(type(caught.exception), NoDeed)
        self.assertEqual(caught.exception.place, 0)
        self.assertNotIsInstance(caught.exception.place, bool)


class StartTest(TellerTest):
    def test_new(self):
        for net in NETS:
            self.assertEqual(seen(Teller(net)), ((), (), (0,) * len(net[1])))

    def test_places(self):
        teller = Teller(ODD)
        self.assertEqual([teller.start(lane) for lane in (4, 0, 0, 2, 1)], [0, 1, 2, 3, 4])
        self.assertEqual(seen(teller), ((0, 1, 2, 3, 4), (), (0,) * 7))

    def test_places_go_on_when_balls_are_out(self):
        teller = Teller(ONE_LANE)
        self.assertEqual(teller.start(0), 0)
        teller.step(0)
        self.assertEqual(teller.start(0), 1)
        self.assertEqual(teller.way(), (1,))

    def test_no_lane(self):
        teller = Teller(FORK)
        teller.start(1)
        for thing in anything() + [2, 3, 10 ** 40, -2, "1", (1,), [1], b"\x01"]:
            self.refused(teller.start, thing)
            self.assertEqual(seen(teller), ((0,), (), (0,)))
        self.assertEqual(teller.start(1), 1)

    def test_lanes_from_0_to_the_last(self):
        for net in NETS:
            teller = Teller(net)
            self.assertEqual([teller.start(lane) for lane in range(net[0])], list(range(net[0])))
            self.refused(teller.start, net[0])


class StepTest(TellerTest):
    def test_fork_by_fork(self):
        teller = Teller(ODD)
        teller.start(4)
        # Forks 1, 2, 3 and 5, then out at end 4.
        for turns in ((0, 1, 0, 0, 0, 0, 0), (0, 1, 1, 0, 0, 0, 0), (0, 1, 1, 1, 0, 0, 0), (0, 1, 1, 1, 0, 1, 0)):
            self.assertIsNone(teller.step(0))
            self.assertEqual(seen(teller), ((0,), (), turns))
        self.assertEqual(teller.step(0), 4)
        self.assertEqual(seen(teller), ((), (4,), (0, 1, 1, 1, 0, 1, 0)))

    def test_a_lane_without_forks(self):
        teller = Teller(LOOSE)
        for many in range(5):
            ball = teller.start(1)
            self.assertEqual(teller.step(ball), 3 * many)
        teller = Teller(BARE)
        told = []
        for lane in (0, 2, 0, 3, 1, 0):
            told.append(teller.step(teller.start(lane)))
        self.assertEqual(told, [2, 3, 6, 0, 1, 10])
        self.assertEqual(teller.given(), (0, 1, 2, 3, 6, 10))

    def test_numbers_go_by_the_order_of_coming_out(self):
        teller = Teller(ONE_LANE)
        for _ in range(4):
            teller.start(0)
        self.assertEqual([teller.step(ball) for ball in (2, 0, 3, 1)], [0, 1, 2, 3])

    def test_balls_that_pass_one_another(self):
        teller = Teller(FORK)
        first, second, third = teller.start(0), teller.start(0), teller.start(1)
        self.assertIsNone(teller.step(second))
        self.assertIsNone(teller.step(first))
        self.assertIsNone(teller.step(third))
        self.assertEqual(teller.turns(), (1,))
        self.assertEqual(teller.step(third), 0)
        self.assertEqual(teller.given(), (0,))
        self.assertEqual(teller.way(), (0, 1))
        self.assertEqual(teller.step(first), 1)
        self.assertEqual(teller.step(second), 2)
        self.assertEqual(seen(teller), ((), (0, 1, 2), (1,)))

    def test_given_rises(self):
        teller = Teller(FORK)
        for _ in range(4):
            teller.start(0)
        for ball in (0, 1, 2, 3):
            teller.step(ball)
        self.assertEqual([teller.step(ball) for ball in (3, 1, 2, 0)], [1, 3, 0, 2])
        self.assertEqual(teller.given(), (0, 1, 2, 3))

    def test_128_forks(self):
        teller = Teller(ALIKE)
        self.assertEqual(let_out(teller, teller.start(1)), (129, 1))
        self.assertEqual(teller.turns(), (1,) * 128)

    def test_none_on_the_way(self):
        teller = Teller(FORK)
        self.refused(teller.step, 0)
        teller.start(0)
        teller.start(1)
        let_out(teller, 0)
        kept = seen(teller)
        for thing in anything() + [0, 2, 3, 10 ** 40, -2, "1", (1,), [1]]:
            self.refused(teller.step, thing)
            self.assertEqual(seen(teller), kept)
        self.assertIsNone(teller.step(1))
        self.assertEqual(teller.step(1), 1)
        self.refused(teller.step, 1)


class WholeTest(TellerTest):
    def run_all(self, net, many, numbers):
        """Balls on mixed lanes at mixed paces; the teller behind them, with the counts and the numbers as told."""
        teller, counts, told = Teller(net), [0] * net[0], []
        left = many
        while left or teller.way():
            if left and (numbers.below(4) == 0 or not teller.way()):
                lane = numbers.below(net[0])
                counts[lane] += 1
                self.assertEqual(teller.start(lane), many - left)
                left -= 1
            else:
                number = teller.step(numbers.pick(teller.way()))
                if number is not None:
                    told.append(number)
        return teller, tuple(counts), told

    def test_numbers_are_unlike_at_whatever_paces(self):
        numbers = Numbers(21)
        for _ in range(60):
            net = numbers.net()
            teller, counts, told = self.run_all(net, numbers.below(30), numbers)
            self.assertEqual(len(set(told)), len(told))
            self.assertEqual(teller.given(), tuple(sorted(told)))
            self.assertEqual(teller.turns(), turns_of(net, counts))
            ends = ends_of(net, counts)
            wanted = [end + net[0] * k for end in range(net[0]) for k in range(ends[end])]
            self.assertEqual(teller.given(), tuple(sorted(wanted)))

    def test_of_a_stair_net_all_from_0_on(self):
        numbers = Numbers(22)
        for many in (0, 1, 2, 3, 7, 16, 33, 61):
            teller, counts, told = self.run_all(FOUR, many, numbers)
            self.assertEqual(teller.given(), tuple(range(many)))

    def test_300_balls(self):
        numbers = Numbers(23)
        for net in (FOUR, WIDE):
            teller, counts, told = self.run_all(net, 300, numbers)
            self.assertEqual(len(set(told)), 300)
            self.assertEqual((teller.way(), teller.turns()), ((), turns_of(net, counts)))

    def test_one_by_one_as_passed(self):
        numbers = Numbers(24)
        for _ in range(40):
            net = numbers.net()
            teller, turns, out = Teller(net), (0,) * len(net[1]), [0] * net[0]
            for _ in range(12):
                lane = numbers.below(net[0])
                turns, end = passed(net, turns, lane)
                steps, number = let_out(teller, teller.start(lane))
                self.assertEqual((number, teller.turns()), (end + net[0] * out[end], turns))
                out[end] += 1

    def test_one_teller_is_nothing_to_another(self):
        one, other = Teller(FORK), Teller(FORK)
        one.start(0)
        one.start(0)
        let_out(one, 1)
        self.assertEqual(seen(other), ((), (), (0,)))
        self.refused(other.step, 0)
        self.assertEqual(other.start(1), 0)
        self.assertEqual(let_out(other, 0), (2, 0))
        self.assertEqual(seen(one), ((0,), (0,), (1,)))

    def test_what_was_told_does_not_change(self):
        teller = Teller(FORK)
        teller.start(0)
        told = seen(teller)
        self.assertEqual(seen(teller), told)
        let_out(teller, 0)
        self.assertEqual(told, ((0,), (), (0,)))
        self.assertEqual([type(part) for part in seen(teller)], [tuple, tuple, tuple])
        self.assertEqual(FORK, (2, ((0, 1),), (0, 1)))


if __name__ == "__main__":
    unittest.main()
