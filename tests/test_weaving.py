import unittest

from samples import ALIKE, BARE, FOUR, GREAT, LOOSE, NETS, ODD, ONE_LANE, WIDE, Numbers, anything
from stairlanes.counting import ends_of, turns_of
from stairlanes.errors import LaneError, NoDeed, NoGroup
from stairlanes.scenes import begun, done
from stairlanes.weaving import is_still, put_in, woven

FORK = (2, ((0, 1),), (0, 1))


def mixed_weaving(net, numbers, puts, most):
    """A weaving that ends still: deeds of all kinds, then steps alone; and its last scene."""
    scene, deeds = begun(net), []
    while puts or scene[1]:
        many = len(scene[1])
        choice = numbers.below(4)
        k = numbers.below(many) if many else 0
        alike = [j for j in range(k) if scene[1][j][1:] == scene[1][k][1:]]
        if puts and (choice == 0 or not many):
            lane = numbers.below(net[0])
            deed = ("put", lane, numbers.pick((1, -1, 2, -2, 5, -7, 1 + numbers.below(most), GREAT, -GREAT)))
            puts -= 1
        elif choice == 1 and alike:
            deed = ("join", numbers.pick(alike), k)
        else:
            deed = ("step", k)
        scene = done(net, scene, deed)
        deeds.append(deed)
    return tuple(deeds), scene


class WovenTest(unittest.TestCase):
    def test_no_deed(self):
        for net in NETS:
            self.assertEqual(woven(net, ()), begun(net))

    def test_by_hand(self):
        deeds = (("put", 0, 3), ("put", 1, -1), ("step", 0), ("step", 2), ("join", 0, 1))
        self.assertEqual(woven(FORK, deeds[:3]), ((1,), ((2, 0, 1), (1, 1, 1), (-1, 1, 0)), (0, 0)))
        self.assertEqual(woven(FORK, deeds[:4]), ((0,), ((2, 0, 1), (1, 1, 1), (-1, 0, 1)), (0, 0)))
        self.assertEqual(woven(FORK, deeds[:4] + (("join", 0, 2), ("step", 0))), ((0,), ((1, 1, 1),), (1, 0)))

    def test_as_done_one_by_one(self):
        numbers = Numbers(11)
        for _ in range(40):
            net = numbers.net()
            deeds, scene = mixed_weaving(net, numbers, 4, 20)
            self.assertEqual(woven(net, deeds), scene)
            at = numbers.below(len(deeds))
            part = begun(net)
            for deed in deeds[:at]:
                part = done(net, part, deed)
            self.assertEqual(woven(net, deeds[:at]), part)

    def test_400_deeds(self):
        deeds = tuple(("put", i % 4, 1 - 2 * (i % 3)) for i in range(400))
        scene = woven(FOUR, deeds)
        self.assertEqual(len(scene[1]), 400)
        self.assertEqual(scene[1][399], (1, 3, 1))
        deeds = (("put", 0, GREAT), ("put", 0, -GREAT), ("join", 0, 1), ("put", 1, 1)) + (("step", 0),) * 129
        deeds += (("put", 0, 2), ("put", 0, -2), ("join", 0, 1)) * 89
        self.assertEqual(len(deeds), 400)
        self.assertEqual(woven(ALIKE, deeds), ((1,) * 128, (), (0, 1)))

    def test_when_all_is_still_ends_and_turns_are_those_of_the_counts(self):
        numbers = Numbers(12)
        for _ in range(150):
            net = numbers.net()
            deeds, scene = mixed_weaving(net, numbers, 1 + numbers.below(6), 1000)
            counts = put_in(net, deeds)
            self.assertEqual(woven(net, deeds), (turns_of(net, counts), (), ends_of(net, counts)))

    def test_a_ball_back_undoes_a_ball(self):
        for net in (FORK, FOUR, ODD, WIDE):
            deeds = (("put", 1, 1),)
            while not is_still(woven(net, deeds)):
                deeds += (("step", 0),)
            back = (("put", 1, -1),) + deeds[1:]
            self.assertEqual(woven(net, deeds + back), begun(net))


class RefusalsTest(unittest.TestCase):
    def refused(self, refusal, place, net, deeds):
        with self.assertRaises(LaneError) as caught:
            woven(net, deeds)
        self.assertIs(type(caught.exception), refusal)
        self.assertEqual(caught.exception.place, place)
        self.assertNotIsInstance(caught.exception.place, bool)

    def test_no_deed(self):
        for thing in anything() + [("put", 2, 1), ("put", 0, 0), ("step", True), ("join", 1, 1), ["step", 0], ("put", 0, 10 ** 30)]:
            self.refused(NoDeed, 0, FORK, (thing,))
            self.refused(NoDeed, 1, FORK, (("put", 0, 1), thing))
            self.refused(NoDeed, 2, FORK, (("put", 0, 1), ("step", 0), thing, ("step", 0)))

    def test_no_group(self):
        self.refused(NoGroup, 0, FORK, (("step", 0),))
        self.refused(NoGroup, 0, FORK, (("join", 0, 1), ("put", 0, 1)))
        self.refused(NoGroup, 1, FORK, (("put", 0, 1), ("step", 1)))
        self.refused(NoGroup, 2, FORK, (("put", 0, 1), ("put", 1, 1), ("join", 0, 1)))
        self.refused(NoGroup, 3, FORK, (("put", 0, 1), ("put", 0, -1), ("join", 0, 1), ("step", 0)))

    def test_the_last_of_400(self):
        puts = (("put", 0, 1),) * 399
        self.refused(NoDeed, 399, FORK, puts + (None,))
        self.refused(NoGroup, 399, FORK, puts + (("step", 399),))

    def test_the_first_deed_that_is_refused(self):
        self.refused(NoDeed, 1, FORK, (("put", 0, 1), None, ("step", 7)))
        self.refused(NoGroup, 0, FORK, (("step", 7), None))
        self.refused(NoDeed, 0, FORK, (None, None))


class IsStillTest(unittest.TestCase):
    def test_is_still(self):
        for net in NETS:
            self.assertIs(is_still(begun(net)), True)
            self.assertIs(is_still(woven(net, (("put", 0, 1),))), False)
        self.assertIs(is_still(woven(LOOSE, (("put", 1, 1), ("step", 0)))), True)
        self.assertIs(is_still(woven(FORK, (("put", 1, 1), ("step", 0)))), False)
        self.assertIs(is_still(woven(FORK, (("put", 1, 1), ("step", 0), ("step", 0)))), True)
        self.assertIs(is_still(woven(FORK, (("put", 1, 1), ("put", 1, -1), ("join", 0, 1)))), True)


class PutInTest(unittest.TestCase):
    def test_put_in(self):
        self.assertEqual(put_in(BARE, ()), (0, 0, 0, 0))
        self.assertEqual(put_in(ONE_LANE, (("put", 0, -3),)), (-3,))
        deeds = (("put", 3, 5), ("step", 0), ("put", 1, -2), ("join", 0, 1), ("put", 3, 4), ("step", 1), ("put", 1, 2))
        self.assertEqual(put_in(FOUR, deeds), (0, 0, 0, 9))
        self.assertEqual(put_in(FOUR, deeds[:6]), (0, -2, 0, 9))

    def test_what_is_no_deed_puts_nothing(self):
        for thing in (None, ("put", 2, 1), ("put", True, 1), ("put", 0, 0), ["put", 0, 1], ("put", 0, 10 ** 30), ("put",), ()):
            self.assertEqual(put_in(FORK, (("put", 0, 4), thing, ("step", 9), ("put", 1, 5))), (4, 5))

    def test_thirty_figures(self):
        self.assertEqual(put_in(FORK, (("put", 0, GREAT), ("put", 0, GREAT), ("put", 1, -GREAT))), (2 * GREAT, -GREAT))

    def test_400_deeds(self):
        self.assertEqual(put_in(FOUR, tuple(("put", i % 4, i) for i in range(1, 401))), (20200, 19900, 20000, 20100))


class SameAgainTest(unittest.TestCase):
    def test_nothing_changes(self):
        deeds = (("put", 0, 3), ("put", 4, -2), ("step", 0), ("step", 2))
        kept = tuple(deeds)
        told = [(woven(ODD, deeds), put_in(ODD, deeds), is_still(woven(ODD, deeds))) for _ in range(2)]
        self.assertEqual(told[0], told[1])
        self.assertEqual(deeds, kept)
        with self.assertRaises(NoDeed):
            woven(ODD, deeds + (None,))
        self.assertEqual(woven(ODD, deeds), told[0][0])
        self.assertIsInstance(told[0][1], tuple)


if __name__ == "__main__":
    unittest.main()
