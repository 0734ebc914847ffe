import unittest

from samples import BARE, FOUR, GREAT, LOOSE, NETS, ODD, ONE_LANE, Agreeing, Numbers, anything, nested
from stairlanes.balls import passed, passed_back
from stairlanes.counting import ends_of, turns_of
from stairlanes.errors import LaneError, NoDeed, NoGroup
from stairlanes.scenes import begun, done, is_deed

FORK = (2, ((0, 1),), (0, 1))
WRONG_DEEDS = (
    ("put", 0), ("put", 0, 1, 1), ("put",), ("put", 0, 0), ("put", 5, 1), ("put", -1, 1), ("put", True, 1),
    ("put", 0, True), ("put", 0, False), ("put", 0, None), ("put", None, 1), ("put", "0", 1), ("put", 0, "1"),
    ("put", 0, 10 ** 30), ("put", 0, -10 ** 30), ("put", (0,), 1), ("put", 0, (1,)), ("put", 0, [1]), ["put", 0, 1],
    ("put", 10 ** 40, 1), ("puts", 0, 1), ("PUT", 0, 1), ("", 0, 1), (b"put", 0, 1), (None, 0, 1), (0, 0, 1),
    (("put",), 0, 1), ("put", (0, 1)), "put", "put 0 1",
    ("step",), ("step", 0, 0), ("step", 0, 1), ("step", -1), ("step", True), ("step", False), ("step", None), ("step", "0"),
    ("step", (0,)), ("step", [0]), ["step", 0], (b"step", 0), ("steps", 0), (0, 0), ("join", 0), ("put", 1),
    ("join",), ("join", 0, 0), ("join", 1, 0), ("join", 1, 1), ("join", -1, 0), ("join", -2, -1), ("join", 0, -1),
    ("join", False, 1), ("join", 0, True), ("join", None, 1), ("join", 0, None), ("join", "0", "1"), ("join", 0, "1"),
    ("join", 0, 1, 2), ["join", 0, 1], ("join", (0, 1)), ("join", [0], 1), ("join", 0, (1,)), (["join"], 0, 1),
)


def after(net, *deeds):
    scene = begun(net)
    for deed in deeds:
        scene = done(net, scene, deed)
    return scene


class RefusalTest(unittest.TestCase):
    def refused(self, refusal, net, scene, deed):
        with self.assertRaises(LaneError) as caught:
            done(net, scene, deed)
        self.assertIs(type(caught.exception), refusal)
        self.assertEqual(caught.exception.place, 0)
        self.assertNotIsInstance(caught.exception.place, bool)


class BegunTest(unittest.TestCase):
    def test_begun(self):
        self.assertEqual(begun(FOUR), ((0,) * 6, (), (0, 0, 0, 0)))
        self.assertEqual(begun(ONE_LANE), ((), (), (0,)))
        self.assertEqual(begun(BARE), ((), (), (0, 0, 0, 0)))
        self.assertEqual(begun(LOOSE), ((0,), (), (0, 0, 0)))


class IsDeedTest(unittest.TestCase):
    def test_deeds(self):
        for deed in (("put", 0, 1), ("put", 4, -1), ("put", 2, 77), ("step", 0), ("step", 1), ("step", 10 ** 40),
                     ("join", 0, 1), ("join", 3, 10 ** 40), ("join", 0, 5), ("join", 4, 5)):
            self.assertIs(is_deed(ODD, deed), True, deed)

    def test_thirty_figures_and_thirty_one(self):
        for many in (GREAT, -GREAT):
            self.assertIs(is_deed(ODD, ("put", 0, many)), True)
        for many in (GREAT + 1, -GREAT - 1, 10 ** 31, -10 ** 60):
            self.assertIs(is_deed(ODD, ("put", 0, many)), False)

    def test_lanes_of_the_net(self):
        for net in NETS:
            for lane in range(-2, 18):
                self.assertIs(is_deed(net, ("put", lane, 1)), 0 <= lane < net[0])

    def test_wrong_deeds(self):
        for thing in WRONG_DEEDS:
            self.assertIs(is_deed(ODD, thing), False, thing)

    def test_anything(self):
        for thing in anything():
            for deed in (thing, (thing,), (thing, 0), (thing, 0, 1), ("put", thing, 1), ("step", thing), ("join", thing, 1),
                         ("join", 0, thing), ("step", 0, thing), ("put", 0, 1, thing), ("join", 0, 1, thing), [thing]):
                if deed not in (("step", 0), ("put", 0, 1)):
                    self.assertIs(is_deed(ODD, deed), False, deed)
            if not (isinstance(thing, int) and not isinstance(thing, bool)):
                self.assertIs(is_deed(ODD, ("put", 0, thing)), False, thing)

    def test_what_says_that_it_is_like_all(self):
        for deed in ((Agreeing(), 0), (Agreeing(), 0, 1), ("put", Agreeing(), 1), ("put", 0, Agreeing()),
                     ("step", Agreeing()), ("join", Agreeing(), 1), ("join", 0, Agreeing()), Agreeing()):
            self.assertIs(is_deed(ODD, deed), False)

    def test_deep(self):
        for deed in (nested(60), ("put", nested(59), 1), ("put", 0, nested(59)), ("step", nested(59)), (nested(59), 0)):
            self.assertIs(is_deed(ODD, deed), False)


class PutTest(unittest.TestCase):
    def test_ahead_of_the_first_fork_on_the_lane(self):
        for lane, fork in ((0, 1), (1, 0), (2, 4), (3, 0), (4, 1)):
            self.assertEqual(after(ODD, ("put", lane, 3)), ((0,) * 7, ((3, lane, fork),), (0,) * 5))

    def test_a_lane_without_forks(self):
        self.assertEqual(after(ONE_LANE, ("put", 0, -4)), ((), ((-4, 0, 0),), (0,)))
        self.assertEqual(after(LOOSE, ("put", 1, 2)), ((0,), ((2, 1, 1),), (0, 0, 0)))

    def test_behind_all(self):
        self.assertEqual(after(FORK, ("put", 1, GREAT), ("put", 0, -GREAT), ("put", 1, 1)),
                         ((0,), ((GREAT, 1, 0), (-GREAT, 0, 0), (1, 1, 0)), (0, 0)))


class StepTest(RefusalTest):
    def test_parts_at_a_fork(self):
        parts = {(0, 1): (1, 0), (1, 1): (0, 1), (0, 2): (1, 1), (1, 2): (1, 1), (0, 3): (2, 1), (1, 3): (1, 2),
                 (0, -1): (0, -1), (1, -1): (-1, 0), (0, -2): (-1, -1), (1, -2): (-1, -1), (0, -3): (-1, -2),
                 (1, -3): (-2, -1), (0, GREAT): (GREAT // 2 + 1, GREAT // 2), (1, -GREAT): (-GREAT // 2, -(GREAT // 2))}
        for (turn, many), (one, other) in parts.items():
            for lane in (0, 1):
                groups = tuple((part, to, 1) for to, part in enumerate((one, other)) if part != 0)
                self.assertEqual(done(FORK, ((turn,), ((many, lane, 0),), (0, 0)), ("step", 0)),
                                 (((turn + many) % 2,), groups, (0, 0)))

    def test_parts_as_its_balls_one_by_one(self):
        for run, sign in ((passed, 1), (passed_back, -1)):
            for turn in (0, 1):
                for many in range(1, 8):
                    turns, ends = (turn,), [0, 0]
                    for _ in range(many):
                        turns, end = run(FORK, turns, 0)
                        ends[end] += sign
                    told = done(FORK, ((turn,), ((sign * many, 0, 0),), (0, 0)), ("step", 0))
                    self.assertEqual(told[0], turns)
                    self.assertEqual({lane: part for part, lane, fork in told[1]},
                                     {lane: part for lane, part in enumerate(ends) if part})

    def test_the_first_of_the_pair_stands_first(self):
        net = (2, ((1, 0),), (0, 1))
        self.assertEqual(after(net, ("put", 0, 3), ("step", 0)), ((1,), ((2, 1, 1), (1, 0, 1)), (0, 0)))

    def test_in_the_place_of_the_group(self):
        scene = after(FOUR, ("put", 0, 5), ("put", 2, 4), ("put", 3, 1), ("step", 1))
        self.assertEqual(scene, ((0,) * 6, ((5, 0, 0), (2, 2, 3), (2, 3, 2), (1, 3, 1)), (0,) * 4))
        scene = done(FOUR, scene, ("step", 3))
        self.assertEqual(scene, ((0, 1, 0, 0, 0, 0), ((5, 0, 0), (2, 2, 3), (2, 3, 2), (1, 2, 3)), (0,) * 4))
        scene = done(FOUR, scene, ("step", 0))
        self.assertEqual(scene, ((1, 1, 0, 0, 0, 0), ((3, 0, 2), (2, 1, 3), (2, 2, 3), (2, 3, 2), (1, 2, 3)), (0,) * 4))

    def test_out_behind_all(self):
        scene = after(LOOSE, ("put", 1, 5), ("put", 0, -3), ("put", 1, -7))
        scene = done(LOOSE, scene, ("step", 0))
        self.assertEqual(scene, ((0,), ((-3, 0, 0), (-7, 1, 1)), (5, 0, 0)))
        scene = done(LOOSE, scene, ("step", 1))
        self.assertEqual(scene, ((0,), ((-3, 0, 0),), (-2, 0, 0)))
        scene = done(LOOSE, scene, ("step", 0))
        self.assertEqual(scene, ((1,), ((-1, 2, 1), (-2, 0, 1)), (-2, 0, 0)))
        self.assertEqual(done(LOOSE, scene, ("step", 0)), ((1,), ((-2, 0, 1),), (-2, -1, 0)))
        self.assertEqual(done(LOOSE, scene, ("step", 1)), ((1,), ((-1, 2, 1),), (-2, 0, -2)))

    def test_alike_forks_one_by_one(self):
        net = (2, ((0, 1), (0, 1)), (0, 1))
        scene = after(net, ("put", 0, 1), ("step", 0))
        self.assertEqual(scene, ((1, 0), ((1, 0, 1),), (0, 0)))
        self.assertEqual(done(net, scene, ("step", 0)), ((1, 1), ((1, 0, 2),), (0, 0)))

    def test_no_such_group(self):
        self.refused(NoGroup, FORK, begun(FORK), ("step", 0))
        scene = after(FORK, ("put", 0, 1), ("put", 0, 1))
        for k in (2, 3, 10 ** 40):
            self.refused(NoGroup, FORK, scene, ("step", k))


class JoinTest(RefusalTest):
    def test_one_in_the_place_of_the_first(self):
        scene = after(FORK, ("put", 0, 1), ("put", 1, 2), ("put", 0, 3), ("put", 1, 4), ("put", 0, -6))
        groups = scene[1]
        self.assertEqual(done(FORK, scene, ("join", 0, 2)), ((0,), ((4, 0, 0), groups[1], groups[3], groups[4]), (0, 0)))
        self.assertEqual(done(FORK, scene, ("join", 1, 3)), ((0,), (groups[0], (6, 1, 0), groups[2], groups[4]), (0, 0)))
        self.assertEqual(done(FORK, scene, ("join", 2, 4)), ((0,), groups[:2] + ((-3, 0, 0), groups[3]), (0, 0)))

    def test_both_gone_where_they_come_to_0(self):
        scene = after(FORK, ("put", 0, 5), ("put", 1, 1), ("put", 0, -5), ("put", 1, 2))
        self.assertEqual(done(FORK, scene, ("join", 0, 2)), ((0,), ((1, 1, 0), (2, 1, 0)), (0, 0)))
        scene = after(FORK, ("put", 1, GREAT), ("put", 1, -GREAT))
        self.assertEqual(done(FORK, scene, ("join", 0, 1)), begun(FORK))

    def test_behind_all_forks(self):
        scene = after(LOOSE, ("put", 1, 5), ("put", 1, 6))
        self.assertEqual(done(LOOSE, scene, ("join", 0, 1)), ((0,), ((11, 1, 1),), (0, 0, 0)))
        scene = after(FORK, ("put", 0, 1), ("step", 0), ("put", 0, 2), ("step", 1))
        self.assertEqual(scene[1], ((1, 0, 1), (1, 0, 1), (1, 1, 1)))
        self.assertEqual(done(FORK, scene, ("join", 0, 1)), ((1,), ((2, 0, 1), (1, 1, 1)), (0, 0)))

    def test_greater_than_may_be_put(self):
        scene = after(FORK, ("put", 0, GREAT), ("put", 0, GREAT), ("join", 0, 1))
        self.assertEqual(scene[1], ((2 * GREAT, 0, 0),))
        self.assertEqual(done(FORK, scene, ("step", 0))[1], ((GREAT, 0, 1), (GREAT, 1, 1)))

    def test_no_such_group(self):
        self.refused(NoGroup, FORK, begun(FORK), ("join", 0, 1))
        scene = after(FORK, ("put", 0, 1), ("put", 0, 1))
        for j, k in ((0, 2), (1, 2), (2, 3), (0, 10 ** 40)):
            self.refused(NoGroup, FORK, scene, ("join", j, k))

    def test_two_that_cannot_be_one(self):
        self.refused(NoGroup, FORK, after(FORK, ("put", 0, 1), ("put", 1, 1)), ("join", 0, 1))
        self.refused(NoGroup, BARE, after(BARE, ("put", 0, 1), ("put", 1, -1)), ("join", 0, 1))
        scene = after(FORK, ("put", 0, 1), ("step", 0), ("put", 0, 1))
        self.assertEqual(scene[1], ((1, 0, 1), (1, 0, 0)))
        self.refused(NoGroup, FORK, scene, ("join", 0, 1))


class NoDeedTest(RefusalTest):
    def test_wrong_deeds(self):
        scene = after(ODD, ("put", 0, 1), ("put", 0, 1), ("put", 0, 1))
        for thing in WRONG_DEEDS:
            self.refused(NoDeed, ODD, scene, thing)

    def test_anything(self):
        scene = after(ODD, ("put", 0, 1), ("put", 0, 1), ("put", 0, 1))
        for thing in anything():
            self.refused(NoDeed, ODD, scene, thing)
            self.refused(NoDeed, ODD, scene, ("step", thing))
            self.refused(NoDeed, ODD, scene, ("join", thing, 1))

    def test_first_told_where_both_are_due(self):
        self.refused(NoDeed, FORK, begun(FORK), ("step", -1))
        self.refused(NoDeed, FORK, begun(FORK), ("join", 5, 5))


class WholeTest(unittest.TestCase):
    def test_when_all_is_still_ends_and_turns_are_those_of_the_counts(self):
        numbers = Numbers(8)
        for _ in range(120):
            net = numbers.net()
            counts = numbers.counts(net[0], -9, 9)
            scene = begun(net)
            for lane, many in enumerate(counts):
                first = numbers.below(9) - 4
                for part in (first, many - first):
                    if part:
                        scene = done(net, scene, ("put", lane, part))
            while scene[1]:
                k = numbers.below(len(scene[1]))
                alike = [j for j in range(k) if scene[1][j][1:] == scene[1][k][1:]]
                scene = done(net, scene, ("join", numbers.pick(alike), k) if alike else ("step", k))
            self.assertEqual(scene, (turns_of(net, counts), (), ends_of(net, counts)))

    def test_nothing_changes(self):
        scene = after(ODD, ("put", 3, 5), ("put", 3, -4), ("step", 0))
        kept = ((1, 0, 0, 0, 0, 0, 0), ((3, 3, 3), (2, 1, 2), (-4, 3, 0)), (0,) * 5)
        self.assertEqual(scene, kept)
        for deed in (("put", 0, 1), ("step", 0), ("step", 2)):
            told = done(ODD, scene, deed)
            self.assertEqual(done(ODD, scene, deed), told)
            self.assertEqual(scene, kept)
            self.assertEqual([type(part) for part in told], [tuple, tuple, tuple])
        for deed in (None, ("step", 9), ("join", 0, 1)):
            with self.assertRaises(LaneError):
                done(ODD, scene, deed)
            self.assertEqual(scene, kept)
        self.assertEqual(begun(ODD), ((0,) * 7, (), (0,) * 5))


if __name__ == "__main__":
    unittest.main()
