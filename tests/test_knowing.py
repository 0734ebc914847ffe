import copy
import unittest

from samples import ALIKE, BARE, FORK, FOUR, GREAT, LOOSE, NETS, ONE_LANE, TREE, TWICE, Numbers
from stairlanes.counting import ends_of
from stairlanes.knowing import known_by
from stairlanes.merging import merge_verdict
from stairlanes.plans import is_plan, made_by
from stairlanes.stairs import is_stair
from stairlanes.verdicts import verdict
from stairlanes.ways import merger, stairway

ONE = ("net", ONE_LANE)
TWO = ("net", FORK)
STAIR = ("stairway", 1)
HALVES = ("beside", STAIR, STAIR)
MERGES = ("merger", 2)
# A plan of each kind, all of four lanes, of which nothing else is known.
NOTHING = ("net", FOUR)
FOURS = {"stair": ("stairway", 2), "halves": HALVES, "merges": MERGES, None: NOTHING}


def known_by_hand(plan):
    """What is known, row by row as it is told."""
    word = plan[0]
    within = {"beside": 2, "behind": 2, "doubled": 1, "renamed": 1}.get(word, 0)
    parts = [known_by_hand(part) for part in plan[1:1 + within]]
    stair = (word in ("stairway", "rounds") or plan == ("merger", 1) or (word == "net" and plan[1][0] == 1)
             or (word in ("doubled", "renamed") and parts == ["stair"])
             or (word == "behind" and (parts[1] == "stair" or parts == ["halves", "merges"])))
    if stair:
        return "stair"
    if word == "beside" and parts == ["stair", "stair"] and made_by(plan[1])[0] == made_by(plan[2])[0]:
        return "halves"
    if word == "renamed" and parts == ["halves"]:
        return "halves"
    return "merges" if word == "merger" else None


def mixed_plan(numbers, lanes, deep):
    """A plan of so many lanes, a power of 2."""
    k = lanes.bit_length() - 1
    ways = ["net", "stairway", "rounds"] + ["merger"] * (k > 0)
    if deep > 1:
        ways += ["behind", "behind", "behind", "renamed", "renamed"] + ["beside", "beside", "beside", "doubled"] * (k > 0)
    word = numbers.pick(ways)
    if word == "net":
        forks = [tuple(numbers.shuffled(range(lanes))[:2]) for _ in range(numbers.below(3))] if lanes > 1 else []
        return "net", (lanes, tuple(forks), tuple(numbers.shuffled(range(lanes))))
    if word in ("stairway", "rounds", "merger"):
        return word, k
    if word == "renamed":
        return word, mixed_plan(numbers, lanes, deep - 1), tuple(numbers.shuffled(range(lanes)))
    if word == "doubled":
        return word, mixed_plan(numbers, lanes // 2, deep - 1)
    part = lanes if word == "behind" else lanes // 2
    return word, mixed_plan(numbers, part, deep - 1), mixed_plan(numbers, part, deep - 1)


class KnownByTest(unittest.TestCase):
    def test_told_ways(self):
        for k in range(5):
            self.assertEqual(known_by(("stairway", k)), "stair")
            self.assertEqual(known_by(("rounds", k)), "stair")
        self.assertEqual([known_by(("merger", k)) for k in range(1, 5)], ["stair", "merges", "merges", "merges"])

    def test_nets(self):
        self.assertEqual(known_by(ONE), "stair")
        for net in NETS + (FORK, FOUR, TREE, TWICE, stairway(3), merger(2)):
            self.assertEqual(known_by(("net", net)), "stair" if net[0] == 1 else None)

    def test_doubled(self):
        for known, plan in FOURS.items():
            self.assertEqual(known_by(("doubled", plan)), "stair" if known == "stair" else None)
        self.assertEqual(known_by(("doubled", ONE)), "stair")
        self.assertEqual(known_by(("doubled", ("doubled", ("doubled", ("doubled", ONE))))), "stair")
        self.assertIsNone(known_by(("doubled", ("doubled", TWO))))

    def test_renamed(self):
        for known, plan in FOURS.items():
            for names in ((0, 1, 2, 3), (3, 1, 0, 2)):
                self.assertEqual(known_by(("renamed", plan, names)), known if known in ("stair", "halves") else None)
        self.assertEqual(known_by(("renamed", ("merger", 1), (1, 0))), "stair")

    def test_behind(self):
        for first, one in FOURS.items():
            for second, other in FOURS.items():
                wanted = "stair" if second == "stair" or (first, second) == ("halves", "merges") else None
                self.assertEqual(known_by(("behind", one, other)), wanted, (first, second))

    def test_beside(self):
        for first, one in FOURS.items():
            for second, other in FOURS.items():
                wanted = "halves" if first == second == "stair" else None
                self.assertEqual(known_by(("beside", one, other)), wanted, (first, second))

    def test_beside_of_as_many_lanes(self):
        for one in range(4):
            for other in range(4):
                plan = ("beside", ("stairway", one), ("rounds", other))
                self.assertEqual(known_by(plan), "halves" if one == other else None)
        self.assertEqual(known_by(("beside", ONE, ONE)), "halves")
        self.assertEqual(known_by(("beside", ("doubled", ONE), ("merger", 1))), "halves")
        self.assertIsNone(known_by(("beside", ("doubled", ONE), ONE)))
        self.assertIsNone(known_by(("beside", TWO, TWO)))
        self.assertIsNone(known_by(("beside", HALVES, HALVES)))

    def test_halves_and_a_merger(self):
        self.assertEqual(known_by(("behind", HALVES, MERGES)), "stair")
        self.assertEqual(known_by(("behind", ("renamed", HALVES, (2, 0, 3, 1)), MERGES)), "stair")
        self.assertIsNone(known_by(("behind", HALVES, ("renamed", MERGES, (0, 1, 2, 3)))))
        self.assertIsNone(known_by(("behind", ("behind", NOTHING, HALVES), MERGES)))
        self.assertIsNone(known_by(("behind", HALVES, HALVES)))
        self.assertEqual(known_by(("behind", ("beside", ONE, ONE), ("merger", 1))), "stair")

    def test_eight_deep(self):
        plan = ONE
        for _ in range(7):
            plan = ("behind", ONE, plan)
        self.assertIs(is_plan(plan), True)
        self.assertEqual(known_by(plan), "stair")
        plan = TWO
        for _ in range(7):
            plan = ("renamed", plan, (1, 0))
        self.assertIs(is_plan(plan), True)
        self.assertIsNone(known_by(plan))

    def test_of_16_lanes(self):
        eight = ("beside", ("stairway", 3), ("rounds", 3))
        self.assertEqual(known_by(("behind", eight, ("merger", 4))), "stair")
        self.assertEqual(known_by(("doubled", ("rounds", 3))), "stair")
        self.assertEqual(known_by(("behind", ("net", (16, (), tuple(range(16)))), ("rounds", 4))), "stair")
        self.assertIsNone(known_by(("net", (16, (), tuple(range(16))))))

    def test_of_128_forks(self):
        self.assertIsNone(known_by(("net", ALIKE)))
        self.assertEqual(known_by(("behind", ("net", (2, ALIKE[1][:127], (1, 0))), ("merger", 1))), "stair")

    def test_mixed(self):
        numbers = Numbers(331)
        told = set()
        for _ in range(600):
            plan = mixed_plan(numbers, numbers.pick((1, 2, 4, 8)), 1 + numbers.below(5))
            self.assertEqual(known_by(plan), known_by_hand(plan), plan)
            told.add(known_by(plan))
        self.assertEqual(told, {"stair", "halves", "merges", None})


class WholeTest(unittest.TestCase):
    def plans(self, numbers, wanted, many):
        """Mixed plans of which this is known, joined ones first of all."""
        told = []
        while len(told) < many:
            plan = mixed_plan(numbers, numbers.pick((2, 4)), 2 + numbers.below(4))
            if known_by(plan) == wanted and is_plan(plan):
                told.append(plan)
        return told

    def test_a_net_that_its_plan_tells_to_be_a_stair_net_is_one(self):
        numbers = Numbers(332)
        for plan in self.plans(numbers, "stair", 120):
            net = made_by(plan)
            if len(net[1]) <= 30:
                self.assertEqual(verdict(net, tuple(range(net[0])), 10 ** 4)[0], "stair", plan)
            for low, high in ((0, 3), (-9, 9), (-GREAT, GREAT)):
                self.assertTrue(is_stair(ends_of(net, numbers.counts(net[0], low, high))))

    def test_of_8_and_16_lanes(self):
        numbers = Numbers(333)
        eight = ("renamed", ("beside", ("stairway", 2), ("doubled", ("merger", 1))), (5, 2, 7, 0, 1, 3, 6, 4))
        merged = ("behind", eight, ("merger", 3))
        for plan in (merged, ("doubled", merged), ("behind", ("beside", merged, ("rounds", 3)), ("merger", 4)),
                     ("renamed", ("rounds", 4), tuple(range(15, -1, -1))), ("doubled", ("rounds", 3))):
            self.assertIs(is_plan(plan), True)
            self.assertEqual(known_by(plan), "stair")
            net = made_by(plan)
            for low, high in ((0, 1), (0, 4), (-9, 9), (-GREAT, GREAT)):
                for _ in range(20):
                    self.assertTrue(is_stair(ends_of(net, numbers.counts(net[0], low, high))))
        net = made_by(merged)
        self.assertEqual(verdict(net, tuple(range(8)), 10 ** 5)[0], "stair")

    def test_halves_end_as_two_stairs(self):
        numbers = Numbers(334)
        for plan in self.plans(numbers, "halves", 60):
            net = made_by(plan)
            for low, high in ((0, 3), (-9, 9), (-GREAT, GREAT)):
                told = ends_of(net, numbers.counts(net[0], low, high))
                self.assertTrue(is_stair(told[:net[0] // 2]) and is_stair(told[net[0] // 2:]), plan)

    def test_what_merges_merges(self):
        for k in (2, 3, 4):
            self.assertEqual(merge_verdict(made_by(("merger", k)), 10 ** 4)[0], "merges")

    def test_what_is_not_known_may_be_none(self):
        self.assertIsNone(known_by(("beside", ("net", LOOSE), ONE)))
        for plan in (("behind", ("stairway", 2), ("net", BARE)), ("behind", HALVES, ("renamed", MERGES, (1, 2, 0, 3)))):
            self.assertIsNone(known_by(plan))
            self.assertEqual(verdict(made_by(plan), (0, 1, 2, 3), 10 ** 4)[0], "breaks")


class SameAgainTest(unittest.TestCase):
    def test_nothing_changes(self):
        plan = ("behind", ("renamed", HALVES, (2, 0, 3, 1)), MERGES)
        kept = copy.deepcopy(plan)
        self.assertEqual(known_by(plan), known_by(plan))
        self.assertEqual(plan, kept)


if __name__ == "__main__":
    unittest.main()
