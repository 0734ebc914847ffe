import copy
import unittest

from samples import (ALIKE, BARE, FORK, FOUR, GREAT, NETS, ODD, ONE_LANE, TREE, WIDE, Agreeing, Numbers, anything, nested,
                     with_one_changed, wrong_rows)
from stairlanes.counting import ends_of
from stairlanes.joining import behind, beside, doubled, renamed
from stairlanes.nets import is_net, plain
from stairlanes.plans import is_plan, made_by
from stairlanes.ways import merger, rounds, stairway, tree

ONE = ("net", ONE_LANE)
TWO = ("net", FORK)


def bare(lanes, forks=0):
    """A plan of a net of so many lanes and forks."""
    return "net", (lanes, ((0, 1),) * forks, tuple(range(lanes)))


def names(lanes):
    return tuple(range(lanes))[::-1]


def size_by_making(plan, deep=8):
    """The net that the plan makes, None where it is no plan, for what has the form of one."""
    if deep == 0:
        return None
    word = plan[0]
    if word == "net":
        return plan[1]
    if word in ("stairway", "rounds", "merger"):
        return {"stairway": stairway, "rounds": rounds, "merger": merger}[word](plan[1])
    net = size_by_making(plan[1], deep - 1)
    other = size_by_making(plan[2], deep - 1) if word in ("beside", "behind") else ()
    if net is None or other is None:
        return None
    if word == "renamed":
        return renamed(net, plan[2]) if sorted(plan[2]) == list(range(net[0])) else None
    if word == "doubled":
        made = doubled(net) if net[0] in (1, 2, 4, 8) else None
    elif word == "beside":
        made = beside(net, other) if net[0] + other[0] <= 16 else None
    else:
        made = behind(net, other) if net[0] == other[0] else None
    return made if made is not None and len(made[1]) <= 128 else None


def mixed_plan(numbers, deep):
    """A thing that has the form of a plan, whether its nets fit or not."""
    way = numbers.below(9) if deep > 1 else numbers.below(4)
    if way == 0:
        return "net", numbers.pick((ONE_LANE, FORK, FOUR, BARE, ODD, numbers.net(4, 5)))
    if way < 4:
        word = ("stairway", "rounds", "merger")[way - 1]
        return word, (word == "merger") + numbers.below(3)
    if way == 4:
        plan = mixed_plan(numbers, deep - 1)
        net = size_by_making(plan)
        return "renamed", plan, tuple(numbers.shuffled(range(net[0] if net else 2)))
    if way == 5:
        return "doubled", mixed_plan(numbers, deep - 1)
    plan = mixed_plan(numbers, deep - 1)
    if way == 8:
        return "behind", plan, plan
    return ("beside", "behind")[way - 6], plan, mixed_plan(numbers, deep - 1)


def chain(deep):
    """A plan just so deep."""
    plan = TWO
    for _ in range(deep - 1):
        plan = ("renamed", plan, (1, 0))
    return plan


class FirstPlansTest(unittest.TestCase):
    def test_nets(self):
        for net in NETS + (TREE, FORK):
            self.assertIs(is_plan(("net", net)), True)
            self.assertEqual(made_by(("net", net)), plain(net))
        self.assertEqual(made_by(("net", (4, ((2, 3), (0, 1)), (0, 1, 2, 3)))), (4, ((0, 1), (2, 3)), (0, 1, 2, 3)))

    def test_told_ways(self):
        for word, way, least in (("stairway", stairway, 0), ("rounds", rounds, 0), ("merger", merger, 1)):
            for k in range(least, 5):
                self.assertIs(is_plan((word, k)), True)
                self.assertEqual(made_by((word, k)), way(k))
            for k in (least - 1, 5, 6, GREAT, -GREAT):
                self.assertIs(is_plan((word, k)), False)

    def test_a_tree_is_no_plan(self):
        for k in range(5):
            self.assertIs(is_plan(("tree", k)), False)
            self.assertIs(is_plan(("net", tree(k))), True)


class JoinedPlansTest(unittest.TestCase):
    def test_made_by_hand(self):
        self.assertEqual(made_by(("beside", TWO, TWO)), (4, ((0, 1), (2, 3)), (0, 1, 2, 3)))
        self.assertEqual(made_by(("behind", TWO, ("net", (2, ((1, 0),), (1, 0))))), (2, ((0, 1), (1, 0)), (1, 0)))
        self.assertEqual(made_by(("doubled", TWO)), FOUR)
        self.assertEqual(made_by(("renamed", TWO, (1, 0))), (2, ((1, 0),), (1, 0)))
        self.assertEqual(made_by(("behind", ("beside", TWO, TWO), ("merger", 2))), stairway(2))

    def test_the_one_ahead_of_the_other(self):
        one, other = ("net", (2, (), (1, 0))), TWO
        self.assertEqual(made_by(("behind", one, other)), (2, ((1, 0),), (1, 0)))
        self.assertEqual(made_by(("behind", other, one)), (2, ((0, 1),), (1, 0)))
        self.assertEqual(made_by(("beside", ONE, TWO)), (3, ((1, 2),), (0, 1, 2)))
        self.assertEqual(made_by(("beside", TWO, ONE)), (3, ((0, 1),), (0, 1, 2)))

    def test_beside_to_16_lanes_and_more(self):
        for one in range(1, 17):
            for other in range(1, 17):
                self.assertIs(is_plan(("beside", bare(one), bare(other))), one + other <= 16)

    def test_behind_of_as_many_lanes(self):
        for one in range(1, 17):
            for other in range(1, 17):
                self.assertIs(is_plan(("behind", bare(one), bare(other))), one == other)

    def test_doubled_of_2_to_the_power_of_0_to_3_lanes(self):
        for lanes in range(1, 17):
            self.assertIs(is_plan(("doubled", bare(lanes))), lanes in (1, 2, 4, 8))

    def test_renamed_by_all_lanes(self):
        for lanes in range(1, 17):
            plan = bare(lanes)
            self.assertIs(is_plan(("renamed", plan, names(lanes))), True)
            self.assertEqual(made_by(("renamed", plan, names(lanes))), (lanes, (), names(lanes)))
            for more in (lanes - 1, lanes + 1):
                self.assertIs(is_plan(("renamed", plan, names(more))), False)
            self.assertIs(is_plan(("renamed", plan, tuple(range(1, lanes + 1)))), False)
        self.assertIs(is_plan(("renamed", ("beside", TWO, ONE), (2, 0, 1))), True)
        self.assertIs(is_plan(("renamed", ("beside", TWO, ONE), (2, 0, 0))), False)

    def test_128_forks_and_more(self):
        self.assertEqual(len(made_by(("rounds", 4))[1]), 128)
        self.assertIs(is_plan(("behind", ("rounds", 4), bare(16))), True)
        self.assertIs(is_plan(("behind", bare(16), ("rounds", 4))), True)
        for one, other in ((64, 64), (128, 0), (0, 128), (1, 127)):
            self.assertIs(is_plan(("behind", bare(2, one), bare(2, other))), True)
            self.assertIs(is_plan(("beside", bare(2, one), bare(2, other))), True)
            self.assertEqual(len(made_by(("beside", bare(2, one), bare(2, other)))[1]), 128)
            for word in ("behind", "beside"):
                self.assertIs(is_plan((word, bare(2, one), bare(2, other + 1))), False)
                self.assertIs(is_plan((word, bare(2, one + 1), bare(2, other))), False)
        for lanes, more in ((2, 4), (4, 12), (8, 32)):
            most = (128 - more) // 2
            self.assertIs(is_plan(("doubled", bare(lanes, most))), True)
            self.assertEqual(len(made_by(("doubled", bare(lanes, most)))[1]), 128)
            self.assertIs(is_plan(("doubled", bare(lanes, most + 1))), False)
        self.assertIs(is_plan(("behind", ("rounds", 4), ("stairway", 4))), False)
        self.assertIs(is_plan(("behind", ("stairway", 4), ("merger", 4))), True)
        self.assertIs(is_plan(("beside", ("rounds", 3), ("rounds", 3))), True)
        self.assertIs(is_plan(("doubled", ("rounds", 4))), False)

    def test_what_does_not_fit_within(self):
        wrong = ("behind", TWO, ONE)
        for plan in (("renamed", wrong, (0, 1)), ("doubled", wrong), ("beside", wrong, ONE), ("beside", ONE, wrong),
                     ("behind", wrong, TWO), ("behind", TWO, wrong)):
            self.assertIs(is_plan(plan), False)

    def test_one_to_eight_deep_and_nine(self):
        for deep in range(1, 9):
            self.assertIs(is_plan(chain(deep)), True)
            self.assertEqual(made_by(chain(deep)), FORK if deep % 2 else (2, ((1, 0),), (1, 0)))
        for deep in range(9, 21):
            self.assertIs(is_plan(chain(deep)), False)

    def test_each_way_within_counts(self):
        for deep in (6, 7, 8, 9):
            inner = chain(deep)
            for plan in (("beside", inner, ONE), ("beside", ONE, inner), ("behind", inner, TWO), ("behind", TWO, inner),
                         ("doubled", inner), ("renamed", inner, (0, 1)), ("beside", inner, inner)):
                self.assertIs(is_plan(plan), deep < 8, plan)
        eight = ONE
        for _ in range(7):
            eight = ("behind", eight, eight)
        self.assertIs(is_plan(eight), True)
        self.assertEqual(made_by(eight), ONE_LANE)
        self.assertIs(is_plan(("behind", eight, ONE)), False)
        self.assertIs(is_plan(("behind", ONE, eight)), False)

    def test_mixed(self):
        numbers = Numbers(321)
        plans = others = 0
        for _ in range(1000):
            plan = mixed_plan(numbers, 1 + numbers.below(6))
            net = size_by_making(plan)
            self.assertIs(is_plan(plan), net is not None, plan)
            if net is None:
                others += 1
            else:
                plans += 1
                told = made_by(plan)
                self.assertEqual(told, plain(net))
                self.assertIs(is_net(told), True)
        self.assertGreater(plans, 300)
        self.assertGreater(others, 100)

    def test_balls_go_as_through_the_nets(self):
        numbers = Numbers(322)
        for _ in range(60):
            one, other = numbers.net(), numbers.net()
            p = tuple(numbers.shuffled(range(one[0])))
            for low, high in ((0, 4), (-GREAT, GREAT)):
                counts, more = numbers.counts(one[0], low, high), numbers.counts(other[0], low, high)
                self.assertEqual(ends_of(made_by(("beside", ("net", one), ("net", other))), counts + more),
                                 ends_of(one, counts) + ends_of(other, more))
                self.assertEqual(ends_of(made_by(("behind", ("net", one), ("net", one))), counts),
                                 ends_of(one, ends_of(one, counts)))
                moved = tuple(counts[p.index(lane)] for lane in range(one[0]))
                self.assertEqual(ends_of(made_by(("renamed", ("net", one), p)), moved), ends_of(one, counts))


class WrongThingsTest(unittest.TestCase):
    def assert_none(self, things):
        for thing in things:
            self.assertIs(is_plan(thing), False, thing)

    def test_anything(self):
        for thing in anything() + [Agreeing()]:
            self.assert_none([thing, (thing,), (thing, thing), (thing, thing, thing), (thing, FORK), (thing, 1), (thing, TWO),
                              (thing, TWO, TWO), ("net", thing), ("stairway", thing), ("rounds", thing), ("merger", thing),
                              ("doubled", thing), ("beside", thing, TWO), ("beside", TWO, thing), ("behind", thing, TWO),
                              ("behind", TWO, thing), ("renamed", thing, (0, 1)), ("renamed", TWO, thing), [thing]])

    def test_truths_are_no_numbers(self):
        for word in ("stairway", "rounds", "merger"):
            self.assert_none([(word, True), (word, False)])
        self.assert_none([("renamed", TWO, (True, False)), ("renamed", TWO, (0, True)), ("renamed", ONE, (False,)),
                          ("net", (True, (), (0,))), ("net", (2, ((0, True),), (0, 1))), ("net", (1, (), (False,)))])

    def test_lists_are_no_tuples(self):
        self.assert_none([list(TWO), ["net", FORK], ("net", list(FORK)), ("net", (2, [(0, 1)], (0, 1))), ["stairway", 1],
                          ["beside", TWO, TWO], ("beside", list(TWO), TWO), ("beside", TWO, list(TWO)), ("renamed", TWO, [1, 0]),
                          ["renamed", TWO, (1, 0)], ("doubled", list(TWO)), ["doubled", TWO], ("behind", ["stairway", 1], TWO)])

    def test_a_thing_more_or_fewer(self):
        self.assert_none([("net",), ("net", FORK, FORK), ("net", FORK, (0, 1)), ("stairway",), ("stairway", 1, 1), ("rounds",),
                          ("rounds", 1, 1), ("merger",), ("merger", 1, 1), ("merger", 1, TWO), ("stairway", 1, TWO), ("doubled",),
                          ("doubled", TWO, TWO), ("doubled", TWO, (0, 1)), ("beside", TWO), ("beside",),
                          ("beside", TWO, TWO, TWO),
                          ("behind", TWO), ("behind", TWO, TWO, TWO), ("renamed", TWO), ("renamed", TWO, (1, 0), (1, 0)),
                          ("renamed", (1, 0)), (), ("behind", TWO, TWO, None)])

    def test_other_words(self):
        for word in ("", "Net", "NET", "nets", "tree", "round", "stair", "double", "rename", "joined", "net ", b"net", None, 0,
                     ("net",), Agreeing()):
            self.assert_none([(word, FORK), (word, 1), (word, TWO), (word, TWO, TWO), (word, TWO, (1, 0))])

    def test_things_in_each_other_s_place(self):
        self.assert_none([("net", TWO), ("net", 1), ("stairway", FORK), ("stairway", ("stairway", 1)), ("rounds", TWO),
                          ("merger", TWO), ("doubled", FORK), ("doubled", 1), ("beside", FORK, FORK), ("beside", TWO, (1, 0)),
                          ("renamed", TWO, TWO), ("renamed", FORK, (1, 0)), ("renamed", (1, 0), TWO), (FORK, "net"), FORK,
                          ("behind", 1, 1), (TWO, "beside", TWO), "net", "stairway 1", (1, "stairway")])

    def test_wrong_nets(self):
        self.assert_none([("net", net) for net in ((0, (), ()), (17, (), tuple(range(17))), (2, ((0, 0),), (0, 1)),
                                                   (2, (), (0, 0)),
                                                   (2, ((0, 1),) * 129, (0, 1)), (2, (), (0,)), (2, ((0, 2),), (0, 1)), FORK[:2],
                                                   FORK + ((),), list(FORK), (2, None, (0, 1)), ("2", (), (0, 1)), (FORK,))])

    def test_wrong_names(self):
        for row in ((1, 0), (0, 1)):
            self.assert_none([("renamed", TWO, thing) for thing in wrong_rows(row)])
        self.assert_none([("renamed", TWO, row) for row in ((0, 0), (1, 1), (0, 2), (-1, 0), (2, 1), (0, GREAT))])

    def test_wrong_within(self):
        plan = ("behind", ("beside", ("doubled", ONE), ("renamed", TWO, (1, 0))), ("merger", 2))
        self.assertIs(is_plan(plan), True)
        for thing in (None, (), "", 0, ("net",), ("stairway", True), ["net", FORK], ("doubled", ["net", ONE_LANE]),
                      ("merger", 0)):
            for place in (1, 2):
                self.assert_none([with_one_changed(plan, place, thing),
                                  with_one_changed(plan, 1, with_one_changed(plan[1], place, thing))])

    def test_however_deep(self):
        deep, twice = ONE, ONE
        for _ in range(57):
            deep, twice = ("renamed", deep, (0,)), ("behind", twice, twice)
        self.assert_none([nested(60), deep, twice, ("beside", nested(59), TWO), ("renamed", TWO, nested(59)), ("net", nested(59)),
                          ("doubled", deep), ("behind", ONE, deep), ("net", deep)])


class SameAgainTest(unittest.TestCase):
    def test_nothing_changes(self):
        for plan in (("behind", ("beside", TWO, TWO), ("merger", 2)), ("doubled", ("net", FOUR)),
                     ("renamed", ("net", ODD), names(5)),
                     ("net", WIDE), ("net", ALIKE)):
            kept = copy.deepcopy(plan)
            self.assertIs(is_plan(plan), True)
            self.assertEqual(made_by(plan), made_by(plan))
            self.assertEqual(plan, kept)
        for thing in (["net", [2, [], [0, 1]]], ("renamed", TWO, [1, 0])):
            kept = copy.deepcopy(thing)
            self.assertIs(is_plan(thing), False)
            self.assertEqual(thing, kept)


if __name__ == "__main__":
    unittest.main()
