import copy
import unittest

from samples import (ALIKE, BARE, CROSSED, FORK, FOUR, GREAT, LOOSE, NETS, ODD, ONE_LANE, TREE, TWICE, WIDE, Agreeing, Numbers,
                     anything, layered, with_ends)
from stairlanes.bars import bar
from stairlanes.counting import ends_of, turns_of
from stairlanes.desk import Desk
from stairlanes.errors import LaneError, NoGroup, NoLine, NotEven, NoText
from stairlanes.merging import merge_verdict
from stairlanes.nets import depth
from stairlanes.reaching import reach
from stairlanes.reading import read_net
from stairlanes.scenes import begun, done
from stairlanes.sharing import shares
from stairlanes.showing import show_counts, show_net
from stairlanes.verdicts import verdict
from stairlanes.ways import merger, rounds, stairway, tree

WORDS = ("put", "step", "join", "back", "turns", "groups", "out", "still", "ends", "depth", "shares", "stair", "reach", "merge",
         "bar", "net")
ALONE = ("back", "turns", "groups", "out", "still", "depth", "bar", "net")
WRONG_NUMBERS = ("", "00", "01", "-0", "+1", "-", "--1", "1.", "x", "one", "\u0661", "1_0", "1" * 31, "-" + "1" * 31, "0x1", "1,",
                 "\t1", "1\n", "None")


def desk_of(net, *lines):
    desk = Desk(show_net(net))
    for line in lines:
        desk.say(line)
    return desk


def seen(desk):
    return [desk.say(line) for line in ("turns", "groups", "out", "still")]


def words_of(scene):
    """What a desk tells of the scene."""
    turns, groups, out = scene
    return ["".join(map(str, turns)) or "-", " ".join("{}@{}:{}".format(*group) for group in groups) or "-",
            ",".join(map(str, out)), "no" if groups else "yes"]


def deed_near(numbers, net, scene):
    """A deed that may be done in the scene."""
    groups = scene[1]
    pairs = [(j, k) for k in range(len(groups)) for j in range(k) if groups[j][1:] == groups[k][1:]]
    way = numbers.below(3)
    if way == 1 and pairs:
        return ("join",) + numbers.pick(pairs)
    if way > 0 and groups:
        return "step", numbers.below(len(groups))
    return "put", numbers.below(net[0]), numbers.pick((1, -1, 2, -3, 7, GREAT, -GREAT))


class DeskTest(unittest.TestCase):
    def refused(self, desk, thing, refusal=NoLine):
        kept = seen(desk)
        with self.assertRaises(LaneError) as caught:
            desk.say(thing)
        self.assertIs(type(caught.exception), refusal, repr(thing)[:200])
        if refusal is NoGroup:
            self.assertEqual(caught.exception.place, 0)
            self.assertIs(type(caught.exception.place), int)
        self.assertEqual(seen(desk), kept)

    def assert_says(self, desk, line, wanted):
        told = desk.say(line)
        self.assertEqual(told, wanted, line)
        self.assertIs(type(told), str)


class MakingTest(DeskTest):
    def test_its_weaving_begins(self):
        for net in NETS:
            self.assertEqual(seen(desk_of(net)), words_of(begun(net)))
            self.assert_says(desk_of(net), "net", show_net(net))

    def test_refused_as_read_net_refuses(self):
        texts = ["", "lanes 2", "lanes 17\nends 0", "lanes 2\n0 0\nends 0 1", "lanes 2\n0 1", "lanes 2\n0 1\nends 0 1\n",
                 "lanes 2\n" + "0 1\n" * 129 + "ends 0 1", "lanes 2\n0 1\n1 0\nends 1 1"]
        for thing in anything() + [FOUR, b"lanes 1\nends 0"] + texts:
            with self.assertRaises(NoText) as wanted:
                read_net(thing)
            with self.assertRaises(LaneError) as caught:
                Desk(thing)
            self.assertIs(type(caught.exception), NoText)
            self.assertEqual(caught.exception.row, wanted.exception.row)


class DeedsTest(DeskTest):
    def test_by_hand(self):
        desk = desk_of(FORK)
        for line, wanted in (("put 0 3", ["0", "3@0:0", "0,0", "no"]), ("put 1 -2", ["0", "3@0:0 -2@1:0", "0,0", "no"]),
                             ("step 0", ["1", "2@0:1 1@1:1 -2@1:0", "0,0", "no"]), ("step 1", ["1", "2@0:1 -2@1:0", "0,1", "no"]),
                             ("step 1", ["1", "2@0:1 -1@0:1 -1@1:1", "0,1", "no"]),
                             ("join 0 1", ["1", "1@0:1 -1@1:1", "0,1", "no"]),
                             ("step 1", ["1", "1@0:1", "0,0", "no"]), ("step 0", ["1", "-", "1,0", "yes"])):
            self.assert_says(desk, line, "done")
            self.assertEqual(seen(desk), wanted, line)

    def test_turns(self):
        self.assert_says(desk_of(ONE_LANE), "turns", "-")
        self.assert_says(desk_of(BARE, "put 0 5"), "turns", "-")
        self.assert_says(desk_of(FOUR, "put 0 1", "step 0"), "turns", "100000")
        self.assert_says(desk_of(FOUR, "put 0 1", "step 0", "step 0", "step 0"), "turns", "101010")
        self.assert_says(desk_of(ALIKE), "turns", "0" * 128)

    def test_groups_that_come_to_0(self):
        desk = desk_of(FORK, "put 0 5", "put 0 -5")
        self.assert_says(desk, "join 0 1", "done")
        self.assertEqual(seen(desk), ["0", "-", "0,0", "yes"])

    def test_of_thirty_figures(self):
        desk = desk_of(ONE_LANE, f"put 0 {GREAT}", f"put 0 -{GREAT}", f"put 0 {GREAT}", f"put 0 {GREAT}")
        self.assert_says(desk, "groups", f"{GREAT}@0:0 -{GREAT}@0:0 {GREAT}@0:0 {GREAT}@0:0")
        for _ in range(4):
            desk.say("step 0")
        self.assertEqual(seen(desk), ["-", "-", str(2 * GREAT), "yes"])
        self.refused(desk, f"put 0 {10 ** 30}")
        self.refused(desk, f"put 0 -{10 ** 30}")

    def test_no_group(self):
        desk = desk_of(FORK)
        for line in ("step 0", "step 1", f"step {GREAT}", "join 0 1", f"join 0 {GREAT}", f"join {GREAT - 1} {GREAT}"):
            self.refused(desk, line, NoGroup)
        desk = desk_of(FORK, "put 0 1", "put 1 1", "put 0 1", "step 2")
        for line in ("step 3", "join 0 1", "join 0 2", "join 0 3", "join 2 3"):
            self.refused(desk, line, NoGroup)
        self.assert_says(desk, "back", "done")
        self.assertEqual(desk.say("groups"), "1@0:0 1@1:0 1@0:0")

    def test_no_deed(self):
        desk = desk_of(FORK, "put 0 1", "put 0 1")
        for line in ("put", "put 0", "put 0 0", "put 2 1", "put -1 1", "put 0 1 1", "put 0 1 ", "put  0 1", " put 0 1",
                     "put 0  1",
                     "put,0,1", "step", "step -1", "step 0 0", "step 0 ", "step  0", "join", "join 0", "join 0 0", "join 1 0",
                     "join -1 0", "join 0 1 2", "join 1 1", "join 0 -1", "join 0 1 ", "PUT 0 1", "Put 0 1", "put\t0 1",
                     "put 0 1\n",
                     "\nput 0 1", "puts 0 1", "put0 1", "step0", "step k", f"step {10 ** 30}", f"join 0 {10 ** 30}"):
            self.refused(desk, line)
        for word in WRONG_NUMBERS:
            for line in (f"put {word} 1", f"put 0 {word}", f"step {word}", f"join {word} 1", f"join 0 {word}"):
                self.refused(desk, line)

    def test_deeds_go_as_done_goes(self):
        numbers = Numbers(311)
        for net in NETS + tuple(numbers.net() for _ in range(40)):
            desk, scene = desk_of(net), begun(net)
            for _ in range(25):
                deed = deed_near(numbers, net, scene)
                scene = done(net, scene, deed)
                self.assert_says(desk, " ".join(map(str, deed)), "done")
                self.assertEqual(seen(desk), words_of(scene))

    def test_when_all_is_still(self):
        numbers = Numbers(312)
        for _ in range(30):
            net = numbers.net()
            counts = numbers.counts(net[0], -9, 9)
            desk = desk_of(net, *[f"put {lane} {many}" for lane, many in enumerate(counts) if many])
            while desk.say("still") == "no":
                desk.say(f"step {numbers.below(len(desk.say('groups').split(' ')))}")
            self.assertEqual(desk.say("out"), desk.say(f"ends {show_counts(counts)}"))
            self.assertEqual(seen(desk), words_of((turns_of(net, counts), (), ends_of(net, counts))))


class BackTest(DeskTest):
    def test_of_nothing(self):
        desk = desk_of(FORK)
        for _ in range(3):
            self.assert_says(desk, "back", "none")
            self.assertEqual(seen(desk), ["0", "-", "0,0", "yes"])
        desk.say("put 0 1")
        self.assert_says(desk, "back", "done")
        self.assert_says(desk, "back", "none")

    def test_each_deed(self):
        lines = ("put 0 3", "put 0 4", "join 0 1", "step 0", "step 0", "step 0")
        desk, kept = desk_of(FORK), []
        for line in lines:
            kept.append(seen(desk))
            desk.say(line)
        while kept:
            self.assert_says(desk, "back", "done")
            self.assertEqual(seen(desk), kept.pop())
        self.assert_says(desk, "back", "none")

    def test_forth_and_back(self):
        numbers = Numbers(313)
        for net in (FORK, FOUR, ODD, LOOSE, ONE_LANE, WIDE):
            desk, scenes = desk_of(net), [begun(net)]
            for _ in range(80):
                if numbers.below(3) == 0:
                    self.assert_says(desk, "back", "done" if len(scenes) > 1 else "none")
                    scenes = scenes[:-1] or scenes
                else:
                    deed = deed_near(numbers, net, scenes[-1])
                    scenes.append(done(net, scenes[-1], deed))
                    desk.say(" ".join(map(str, deed)))
                self.assertEqual(seen(desk), words_of(scenes[-1]))

    def test_what_is_refused_or_asked_is_no_deed(self):
        desk = desk_of(FORK, "put 0 1", "put 1 2")
        for line in ("step 9", "step x", "put 0 0", "nothing", "join 0 1"):
            self.refused(desk, line, NoGroup if line in ("step 9", "join 0 1") else NoLine)
        for line in ("depth", "bar", "net", "ends 1,2", "shares 0", "stair 9", "reach 9", "merge 9", "turns"):
            desk.say(line)
        self.assert_says(desk, "back", "done")
        self.assertEqual(desk.say("groups"), "1@0:0")

    def test_400_deeds(self):
        desk = desk_of(FOUR, *["put 3 1"] * 400)
        self.assertEqual(desk.say("groups"), " ".join(["1@3:1"] * 400))
        for _ in range(400):
            self.assertEqual(desk.say("back"), "done")
        self.assertEqual(desk.say("back"), "none")


class OfTheNetTest(DeskTest):
    def test_ends(self):
        self.assert_says(desk_of(FORK), "ends 5,-2", "2,1")
        self.assert_says(desk_of(ONE_LANE), "ends -7", "-7")
        self.assert_says(desk_of(BARE), "ends 1,2,3,4", "4,2,1,3")
        numbers = Numbers(314)
        for net in NETS + tuple(numbers.net() for _ in range(30)):
            for low, high in ((0, 3), (-9, 9), (-GREAT, GREAT)):
                counts = numbers.counts(net[0], low, high)
                self.assert_says(desk_of(net), f"ends {show_counts(counts)}", show_counts(ends_of(net, counts)))

    def test_no_ends(self):
        desk = desk_of(FORK)
        for line in ("ends", "ends ", "ends 1", "ends 1,2,3", "ends 1 2", "ends 1,2 ", "ends  1,2", "ends 1, 2", "ends ,",
                     "ends 1,", "ends 1,2 3,4", f"ends 1,{10 ** 30}", "ends 1;2", "ends a,b", "ends 1,2\n", "end 1,2"):
            self.refused(desk, line)
        for word in WRONG_NUMBERS:
            self.refused(desk, f"ends 1,{word}")
            self.refused(desk, f"ends {word},1")

    def test_depth(self):
        for net in NETS:
            self.assert_says(desk_of(net), "depth", str(depth(net)))
        self.assert_says(desk_of(BARE), "depth", "0")
        self.assert_says(desk_of(ALIKE), "depth", "128")

    def test_shares(self):
        self.assert_says(desk_of(FORK), "shares 0", "1,1")
        self.assert_says(desk_of(TREE), "shares 1", "2,0,2,0")
        self.assert_says(desk_of(ALIKE), "shares 1", f"{2 ** 127},{2 ** 127}")
        for net in NETS:
            for lane in range(net[0]):
                self.assert_says(desk_of(net), f"shares {lane}", show_counts(shares(net)[lane]))
            self.refused(desk_of(net), f"shares {net[0]}")

    def test_no_shares(self):
        desk = desk_of(FORK)
        for line in ("shares", "shares ", "shares 2", "shares -1", "shares 0 1", "shares 0 ", "shares 0,1", "share 0"):
            self.refused(desk, line)
        for word in WRONG_NUMBERS:
            self.refused(desk, f"shares {word}")

    def test_bar(self):
        self.assert_says(desk_of(FORK), "bar", "none")
        self.assert_says(desk_of(LOOSE), "bar", "lanes")
        self.assert_says(desk_of(TREE), "bar", "depth")
        self.assert_says(desk_of(layered(4, 3)), "bar", "share 0 0")
        self.assert_says(desk_of((4, ((0, 1), (0, 2), (1, 3), (0, 2), (1, 3)), (0, 1, 2, 3))), "bar", "share 2 0")
        self.assert_says(desk_of(with_ends(FOUR, (0, 1, 2, 3))), "bar", "row 0111")
        self.assert_says(desk_of(with_ends(stairway(3), stairway(3)[2][::-1])), "bar", "row 00000001")
        self.assert_says(desk_of(with_ends(stairway(4), stairway(4)[2][::-1])), "bar", "none")
        for net in [stairway(k) for k in range(5)] + [rounds(k) for k in range(5)]:
            self.assert_says(desk_of(net), "bar", "none")

    def test_bar_as_bar_tells(self):
        numbers = Numbers(315)
        for net in [numbers.net() for _ in range(40)] + [numbers.near([FOUR]) for _ in range(20)]:
            told = bar(net)
            wanted = "none" if told is None else " ".join(str(part) for part in told)
            if told is not None and told[0] == "row":
                wanted = "row " + "".join(str(number) for number in told[1])
            self.assert_says(desk_of(net), "bar", wanted)

    def test_net(self):
        numbers = Numbers(316)
        for net in NETS + tuple(numbers.net() for _ in range(20)):
            self.assert_says(desk_of(net), "net", show_net(net))

    def test_whatever_was_woven(self):
        desk = desk_of(FOUR, "put 0 3", "step 0", "step 0", "put 2 -1")
        for line in ("ends 1,2,3,4", "depth", "shares 2", "stair 99", "stair 99 0 2", "reach 99", "merge 99", "bar", "net"):
            self.assert_says(desk, line, desk_of(FOUR).say(line))


class StairTest(DeskTest):
    def test_by_hand(self):
        self.assert_says(desk_of(FORK), "stair 9", "stair 2")
        self.assert_says(desk_of(FORK), "stair 2", "stair 2")
        self.assert_says(desk_of(FORK), "stair 1", "open")
        self.assert_says(desk_of((2, (), (0, 1))), "stair 9", "breaks 0,1")
        self.assert_says(desk_of((2, (), (0, 1))), "stair 9 0", "breaks 2,0")
        self.assert_says(desk_of(ONE_LANE), "stair 1", "stair 1")
        self.assert_says(desk_of(TREE), "stair 9 0 2", "stair 4")
        self.assert_says(desk_of(TREE), "stair 9", "breaks " + show_counts(verdict(TREE, (0, 1, 2, 3), 9)[1]))

    def test_most(self):
        desk = desk_of(FOUR)
        pairs = len(verdict(FOUR, (0, 1, 2, 3), 4000)[1])
        for most in (1, pairs - 1, pairs, 4000):
            self.assert_says(desk, f"stair {most}", f"stair {pairs}" if most >= pairs else "open")
        for most in ("0", "-1", "4001", str(GREAT), "40000", "04000", "4000.", "+1", ""):
            self.refused(desk, f"stair {most}")
            self.refused(desk, f"stair {most} 0")

    def test_lanes(self):
        desk = desk_of(FOUR)
        for line in ("stair", "stair ", "stair 9 ", "stair  9", "stair 9 4", "stair 9 -1", "stair 9 0 0", "stair 9 1 0",
                     "stair 9 0 2 1",
                     "stair 9 0 1 1", "stair 9 0,1", "stair 9 0  1", "stair 9 0 1 ", "stair 9 0 1 2 3 4", "stair 9 3 2 1 0",
                     "stairs 9", "stair 9 all", "Stair 9"):
            self.refused(desk, line)
        for word in WRONG_NUMBERS:
            for line in (f"stair {word}", f"stair {word} 0", f"stair 9 {word}", f"stair 9 0 {word}", f"stair 9 {word} 3"):
                self.refused(desk, line)
        for line in ("stair 99 0", "stair 99 3", "stair 99 0 3", "stair 99 1 2 3", "stair 99 0 1 2 3"):
            self.assertEqual(desk.say(line).split(" ")[0], "stair")

    def test_as_verdict_tells(self):
        numbers = Numbers(317)
        words = set()
        for net in NETS + tuple(numbers.net(4, 6) for _ in range(40)) + (stairway(3), tree(3), rounds(2)):
            for some in (tuple(range(net[0])), (0,), tuple(range(0, net[0], 2)), (net[0] - 1,)):
                for most in (1, 5, 300):
                    word, found = verdict(net, some, most)
                    wanted = {"stair": f"stair {len(found or ())}", "open": "open"}.get(word) or f"breaks {show_counts(found)}"
                    self.assert_says(desk_of(net), " ".join(map(str, ("stair", most) + some)), wanted)
                    if len(some) == net[0]:
                        self.assert_says(desk_of(net), f"stair {most}", wanted)
                    words.add(word)
        self.assertEqual(words, {"stair", "breaks", "open"})


class ReachTest(DeskTest):
    def test_by_hand(self):
        self.assert_says(desk_of(FORK), "reach 9", "reach 1 0,1")
        self.assert_says(desk_of(FORK), "reach 2", "reach 1 0,1")
        self.assert_says(desk_of(FORK), "reach 1", "open")
        self.assert_says(desk_of(ONE_LANE), "reach 1", "reach 0 0")
        for net in (BARE, TREE, LOOSE):
            for most in (1, 4000):
                self.assert_says(desk_of(net), f"reach {most}", "not even")

    def test_as_reach_tells(self):
        numbers = Numbers(318)
        for net in (FORK, FOUR, CROSSED, TREE, TWICE, ODD) + tuple(numbers.near([FOUR, CROSSED]) for _ in range(30)):
            for most in (1, 7, 4000):
                try:
                    told = reach(net, tuple(range(net[0])), most)
                    wanted = "open" if told == ("open", None) else f"reach {told[1]} {show_counts(told[2])}"
                except NotEven:
                    wanted = "not even"
                self.assert_says(desk_of(net), f"reach {most}", wanted)

    def test_no_reach(self):
        for net in (FORK, BARE):
            desk = desk_of(net)
            for line in ("reach", "reach ", "reach 0", "reach -1", "reach 4001", "reach 9 0", "reach 9 0 1", "reach 9 ",
                         "reach  9", f"reach {GREAT}", "Reach 9"):
                self.refused(desk, line)
            for word in WRONG_NUMBERS:
                self.refused(desk, f"reach {word}")


class MergeTest(DeskTest):
    def test_by_hand(self):
        self.assert_says(desk_of(FORK), "merge 9", "merges 4")
        self.assert_says(desk_of(FORK), "merge 4", "merges 4")
        self.assert_says(desk_of(FORK), "merge 3", "open")
        self.assert_says(desk_of(merger(2)), "merge 99", "merges 16")
        self.assert_says(desk_of(TREE), "merge 99", "breaks 2 0")
        self.assert_says(desk_of((2, (), (0, 1))), "merge 1", "breaks 0 1")

    def test_as_merge_verdict_tells(self):
        numbers = Numbers(319)
        for net in [net for net in [numbers.net(4, 5) for _ in range(60)] if net[0] % 2 == 0] + [merger(3), stairway(2), BARE,
                                                                                                 WIDE]:
            for most in (1, 6, 4000):
                word, found = merge_verdict(net, most)
                wanted = {"merges": f"merges {len(found or ())}", "open": "open"}.get(word) or "breaks {} {}".format(*found)
                self.assert_says(desk_of(net), f"merge {most}", wanted)

    def test_no_merge(self):
        desk = desk_of(FORK)
        for line in ("merge", "merge ", "merge 0", "merge -1", "merge 4001", "merge 9 0", "merge 9 ", "merge  9",
                     f"merge {GREAT}", "merges 9"):
            self.refused(desk, line)
        for word in WRONG_NUMBERS:
            self.refused(desk, f"merge {word}")

    def test_an_odd_number_of_lanes(self):
        for lanes in range(1, 17):
            desk = desk_of((lanes, (), tuple(range(lanes))))
            if lanes % 2:
                for line in ("merge 1", "merge 9", "merge 4000", "merge 0", "merge"):
                    self.refused(desk, line)
            else:
                self.assertEqual(desk.say("merge 9"), "breaks 0 1")


class NoLineTest(DeskTest):
    def test_anything(self):
        desk = desk_of(FOUR, "put 0 1")
        for thing in anything() + [Agreeing(), b"depth", ["depth"], ("depth",), ("put", 0, 1), ("step", 0), 5, {"depth"}]:
            self.refused(desk, thing)

    def test_other_words(self):
        desk = desk_of(FOUR, "put 0 1")
        for line in ("", " ", "\n", "x", "deed", "undo", "help", "quit", "0", "0 1", "lanes", "tree", "verdict 9", "-",
                     "done", "none", "put step", "turns groups"):
            self.refused(desk, line)
        for word in WORDS:
            for line in (word.upper(), word.title(), " " + word, word + "\n", "\n" + word, word + ".", word[:-1], "\t" + word,
                         word + "\t", word + " ", word + "  ", word + " x", "say " + word):
                self.refused(desk, line)

    def test_a_word_more(self):
        desk = desk_of(FOUR, "put 0 1")
        for word in ALONE:
            for more in ("", "0", "1", "9", "x", word, "0,0,0,0"):
                self.refused(desk, f"{word} {more}")
        for word in WORDS:
            if word not in ALONE:
                self.refused(desk, word)

    def test_deep_things(self):
        desk = desk_of(FORK)
        for thing in (["put", ["0", ["1"]]], {"put": {"0": "1"}}, (("put",), ("0",), ("1",))):
            self.refused(desk, thing)


class SameAgainTest(DeskTest):
    def test_one_desk_is_nothing_to_another(self):
        one, other = desk_of(FORK), desk_of(FORK)
        one.say("put 0 5")
        one.say("step 0")
        self.assertEqual(seen(other), ["0", "-", "0,0", "yes"])
        self.assertEqual(other.say("back"), "none")
        other.say("put 1 -1")
        self.assertEqual(seen(one), ["1", "3@0:1 2@1:1", "0,0", "no"])
        self.refused(other, "step 1", NoGroup)
        self.assertEqual(one.say("step 1"), "done")
        self.assertEqual(other.say("groups"), "-1@1:0")

    def test_asked_again(self):
        desk = desk_of(FOUR, "put 0 3", "step 0", "put 1 -2")
        lines = ("turns", "groups", "out", "still", "ends 1,2,3,4", "depth", "shares 1", "stair 99", "stair 99 1 3", "reach 99",
                 "merge 99", "bar", "net")
        first = [desk.say(line) for line in lines]
        self.assertEqual([desk.say(line) for line in lines], first)
        self.assertEqual([desk_of(FOUR, "put 0 3", "step 0", "put 1 -2").say(line) for line in lines], first)

    def test_nothing_handed_in_is_changed(self):
        desk = desk_of(FORK)
        for thing in (["put", 0, 1], {"depth": [1]}, [[]]):
            kept = copy.deepcopy(thing)
            self.refused(desk, thing)
            self.assertEqual(thing, kept)


if __name__ == "__main__":
    unittest.main()
