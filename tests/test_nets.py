import copy
import unittest

from samples import ALIKE, BARE, FOUR, LOOSE, NETS, ODD, ONE_LANE, WIDE, Agreeing, Numbers, anything, nested
from stairlanes.nets import depth, is_net, layers, on_lane, plain


def ringed(lanes, many):
    return lanes, tuple((i % lanes, (i + 1) % lanes) for i in range(many)), tuple(range(lanes))


class IsNetTest(unittest.TestCase):
    def test_nets(self):
        for net in NETS:
            self.assertIs(is_net(net), True, net)

    def test_mixed_nets(self):
        numbers = Numbers(1)
        for _ in range(200):
            net = numbers.net(16, 128)
            self.assertIs(is_net(net), True, net)

    def test_from_one_lane_to_sixteen(self):
        for lanes in range(1, 17):
            self.assertIs(is_net((lanes, (), tuple(range(lanes)))), True)
        for lanes in (0, -1, 17, 18, 10 ** 40):
            self.assertIs(is_net((lanes, (), tuple(range(min(max(lanes, 0), 40))))), False)

    def test_from_no_fork_to_128(self):
        for many in (0, 1, 127, 128):
            self.assertIs(is_net(ringed(16, many)), True)
            self.assertIs(is_net(ringed(2, many)), True)
        for many in (129, 130, 300):
            self.assertIs(is_net(ringed(16, many)), False)

    def test_alike_forks_and_forks_that_fall(self):
        self.assertIs(is_net((3, ((0, 1), (0, 1), (1, 0), (2, 0)), (0, 1, 2))), True)

    def test_ends_in_any_order(self):
        for ends in ((0, 1, 2), (0, 2, 1), (1, 0, 2), (1, 2, 0), (2, 0, 1), (2, 1, 0)):
            self.assertIs(is_net((3, (), ends)), True)

    def test_wrong_lanes(self):
        for lanes in anything() + ["2", (2,), [2]]:
            self.assertIs(is_net((lanes, (), (0, 1))), False, lanes)
        self.assertIs(is_net((True, (), (0,))), False)

    def test_wrong_forks(self):
        wrong = [thing for thing in anything() if thing != ()]
        for forks in wrong + [[(0, 1)], ((0, 1), None), (0, 1), "01", ((0, 1),) * 129]:
            self.assertIs(is_net((2, forks, (0, 1))), False, forks)

    def test_wrong_fork(self):
        wrong = [[0, 1], (0, 0), (1, 1), (0, 2), (2, 1), (-1, 0), (0, -1), (0,), (0, 1, 0), (), (False, True), (0, True),
                 (False, 1), ("0", "1"), (0, None), (None, 1), ((0,), 1), (0, [1]), "01", {0, 1}, {0: 1, 1: 0}, b"\x00\x01",
                 range(2), 10 ** 40, (0, 10 ** 40)]
        for fork in wrong + anything():
            for forks in ((fork,), ((0, 1), fork), (fork, (1, 0))):
                self.assertIs(is_net((2, forks, (0, 1))), False, forks)

    def test_wrong_ends(self):
        wrong = [[0, 1, 2], (0, 1), (0, 1, 2, 3), (0, 1, 1), (0, 0, 0), (0, 1, 3), (-1, 0, 1), (1, 2, 3), (False, True, 2),
                 (0, True, 2), (0, 1, None), (0, 1, "2"), (0, 1, (2,)), ("0", "1", "2"), "012", b"\x00\x01\x02", range(3),
                 {0, 1, 2}, {0: 0, 1: 1, 2: 2}, ((0, 1, 2),), (0, 1, 10 ** 40)]
        for ends in wrong + anything():
            self.assertIs(is_net((3, ((0, 1),), ends)), False, ends)

    def test_a_thing_more_or_fewer(self):
        lanes, forks, ends = FOUR
        for thing in ((lanes, forks), (lanes, forks, ends, ()), (forks, ends), (lanes,), (FOUR,), list(FOUR),
                      (lanes, list(forks), ends), (lanes, forks, list(ends)), (forks, lanes, ends), (lanes, ends, forks)):
            self.assertIs(is_net(thing), False, thing)

    def test_anything(self):
        for thing in anything():
            self.assertIs(is_net(thing), False, thing)
            self.assertIs(is_net((thing, thing, thing)), False, thing)
            self.assertIs(is_net((2, (thing,), (0, 1))), False, thing)
            self.assertIs(is_net((2, ((0, thing),), (0, 1))), False, thing)
            self.assertIs(is_net((2, (), (0, thing))), False, thing)

    def test_what_says_that_it_is_like_all(self):
        for thing in (Agreeing(), (Agreeing(), (), (0,)), (1, Agreeing(), (0,)), (1, (), Agreeing()), (1, (), (Agreeing(),)),
                      (2, ((0, Agreeing()),), (0, 1)), (2, (Agreeing(),), (0, 1))):
            self.assertIs(is_net(thing), False)

    def test_deep(self):
        self.assertIs(is_net((nested(59), (), (0,))), False)
        self.assertIs(is_net((2, ((nested(57), 1),), (0, 1))), False)
        self.assertIs(is_net((2, (), (0, nested(58)))), False)


class LayersTest(unittest.TestCase):
    def test_layers(self):
        self.assertEqual(layers(FOUR), (1, 1, 2, 2, 3, 3))
        self.assertEqual(layers(ODD), (1, 1, 2, 3, 2, 4, 3))
        self.assertEqual(layers(LOOSE), (1,))
        self.assertEqual(layers(ONE_LANE), ())
        self.assertEqual(layers(BARE), ())
        self.assertEqual(layers(ALIKE), tuple(range(1, 129)))

    def test_the_greater_one_of_both_lanes_counts(self):
        self.assertEqual(layers((4, ((0, 1), (0, 1), (1, 2), (3, 2), (0, 3)), (0, 1, 2, 3))), (1, 2, 3, 4, 5))
        self.assertEqual(layers((4, ((0, 1), (0, 1), (2, 3), (3, 1)), (0, 1, 2, 3))), (1, 2, 1, 3))

    def test_layers_as_told(self):
        numbers = Numbers(2)
        for _ in range(100):
            net = numbers.net()
            told = layers(net)
            self.assertIsInstance(told, tuple)
            self.assertEqual(len(told), len(net[1]))
            for at, fork in enumerate(net[1]):
                ahead = [told[i] for i in range(at) if net[1][i][0] in fork or net[1][i][1] in fork]
                self.assertEqual(told[at], 1 + max([0] + ahead))


class DepthTest(unittest.TestCase):
    def test_depth(self):
        for net, many in ((FOUR, 3), (ODD, 4), (LOOSE, 1), (ALIKE, 128)):
            self.assertEqual(depth(net), many)

    def test_without_forks(self):
        self.assertEqual(depth(ONE_LANE), 0)
        self.assertEqual(depth(BARE), 0)

    def test_greatest_layer_need_not_be_the_last(self):
        self.assertEqual(depth((4, ((0, 1), (1, 0), (0, 1), (2, 3)), (0, 1, 2, 3))), 3)


class OnLaneTest(unittest.TestCase):
    def test_on_lane(self):
        self.assertEqual(on_lane(ODD, 0), (1, 2, 6))
        self.assertEqual(on_lane(ODD, 1), (0, 2, 3, 5))
        self.assertEqual(on_lane(ODD, 2), (4,))
        self.assertEqual(on_lane(ODD, 3), (0, 3, 5))
        self.assertEqual(on_lane(ODD, 4), (1, 4, 6))

    def test_a_lane_without_forks(self):
        self.assertEqual(on_lane(LOOSE, 1), ())
        self.assertEqual(on_lane(ONE_LANE, 0), ())
        self.assertEqual(on_lane(BARE, 3), ())

    def test_all_forks(self):
        self.assertEqual(on_lane(ALIKE, 0), tuple(range(128)))
        self.assertEqual(on_lane(ALIKE, 1), tuple(range(128)))

    def test_each_fork_stands_on_two_lanes(self):
        for net in NETS:
            found = sorted(number for lane in range(net[0]) for number in on_lane(net, lane))
            self.assertEqual(found, sorted(list(range(len(net[1]))) * 2))


class PlainTest(unittest.TestCase):
    def test_by_layers_then_as_pairs_rise(self):
        self.assertEqual(plain(ODD), (5, ((0, 4), (3, 1), (1, 0), (4, 2), (0, 4), (3, 1), (1, 3)), (2, 4, 0, 3, 1)))
        self.assertEqual(plain((6, ((5, 4), (1, 0), (3, 2), (4, 1)), (5, 4, 3, 2, 1, 0))),
                         (6, ((1, 0), (3, 2), (5, 4), (4, 1)), (5, 4, 3, 2, 1, 0)))

    def test_a_deep_fork_is_not_put_ahead(self):
        self.assertEqual(plain((4, ((2, 3), (2, 3), (0, 1)), (3, 2, 1, 0))), (4, ((0, 1), (2, 3), (2, 3)), (3, 2, 1, 0)))

    def test_what_is_plain_stays(self):
        for net in NETS:
            self.assertEqual(plain(plain(net)), plain(net))
        for net in (ONE_LANE, BARE, LOOSE, ALIKE, FOUR):
            self.assertEqual(plain(net), net)

    def test_mixed_nets(self):
        numbers = Numbers(3)
        for _ in range(100):
            net = numbers.net(16, 128)
            told = plain(net)
            self.assertIs(is_net(told), True)
            self.assertEqual((told[0], sorted(told[1]), told[2]), (net[0], sorted(net[1]), net[2]))
            row = list(zip(layers(told), told[1]))
            self.assertEqual(row, sorted(row))
            for lane in range(net[0]):
                self.assertEqual([told[1][number] for number in on_lane(told, lane)],
                                 [net[1][number] for number in on_lane(net, lane)])


class SameAgainTest(unittest.TestCase):
    def test_nothing_changes(self):
        for net in NETS:
            kept = copy.deepcopy(net)
            told = [(is_net(net), layers(net), depth(net), on_lane(net, 0), plain(net)) for _ in range(2)]
            self.assertEqual(told[0], told[1])
            self.assertEqual(net, kept)

    def test_what_is_no_net_stays_too(self):
        thing = [2, [[0, 1], (1, 0)], [1, 0]]
        is_net(thing)
        is_net((2, thing[1], thing[2]))
        is_net((2, (thing[1][0],), (0, 1)))
        self.assertEqual(thing, [2, [[0, 1], (1, 0)], [1, 0]])

    def test_samples_reach_the_edges(self):
        self.assertEqual(WIDE[0], 16)
        self.assertEqual(len(ALIKE[1]), 128)


if __name__ == "__main__":
    unittest.main()
