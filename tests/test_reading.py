import copy
import re
import unittest

from samples import ALIKE, BARE, FORK, FOUR, GREAT, NETS, ODD, ONE_LANE, WIDE, Agreeing, Numbers, Plain, anything, nested
from stairlanes.errors import LaneError, NoText
from stairlanes.nets import is_net
from stairlanes.reading import read_counts, read_net
from stairlanes.sharing import shares
from stairlanes.showing import show_counts, show_net
from stairlanes.ways import merger, rounds, stairway, tree

NUMBER = "(0|-?[1-9][0-9]{0,29})"
WRONG_NUMBERS = ("", "00", "01", "-0", "-00", "+0", "+1", "--1", "-", "1-", "0x1", "1.", "1.0", "1e0", "1_0", "a", "one", " 1",
                 "1 ", "\t1", "\r1", "1\r", "\u0661", "\u00b2", "\uff11", "-01", "1" * 31, "-" + "1" * 31, "0" * 31,
                 "1" * 5000, "None", "True", "(1)", "1;", ".")


def fault(text):
    """The number of the first row at fault, None where there is none."""
    rows = text.split("\n")
    head = re.fullmatch(f"lanes {NUMBER}", rows[0])
    if not head or not 1 <= int(head[1]) <= 16:
        return 0
    lanes = int(head[1])
    for at in range(1, len(rows)):
        fork = re.fullmatch(f"{NUMBER} {NUMBER}", rows[at])
        if fork:
            a, b = int(fork[1]), int(fork[2])
            if at > 128 or a == b or not 0 <= a < lanes or not 0 <= b < lanes:
                return at
            continue
        if not re.fullmatch(f"ends( {NUMBER})+", rows[at]):
            return at
        if sorted(int(word) for word in rows[at].split(" ")[1:]) != list(range(lanes)):
            return at
        return None if at + 1 == len(rows) else at + 1
    return len(rows)


class Refusals(unittest.TestCase):
    def assert_refused(self, read, thing, row):
        with self.assertRaises(LaneError) as caught:
            read(thing)
        self.assertIs(type(caught.exception), NoText)
        self.assertEqual(caught.exception.row, row, repr(thing)[:200])
        self.assertIs(type(caught.exception.row), int)


class ReadNetTest(unittest.TestCase):
    def test_by_hand(self):
        self.assertEqual(read_net("lanes 1\nends 0"), ONE_LANE)
        self.assertEqual(read_net("lanes 2\n0 1\nends 0 1"), FORK)
        self.assertEqual(read_net("lanes 4\nends 3 1 0 2"), BARE)
        self.assertEqual(read_net("lanes 5\n3 1\n0 4\n1 0\n3 1\n4 2\n1 3\n0 4\nends 2 4 0 3 1"), ODD)
        self.assertEqual(read_net("lanes 16\n15 10\nends " + " ".join(str(15 - lane) for lane in range(16))),
                         (16, ((15, 10),), tuple(range(15, -1, -1))))

    def test_forks_as_they_stand(self):
        self.assertEqual(read_net("lanes 4\n2 3\n1 0\nends 0 1 2 3"), (4, ((2, 3), (1, 0)), (0, 1, 2, 3)))

    def test_128_forks(self):
        self.assertEqual(read_net("lanes 2\n" + "0 1\n" * 128 + "ends 1 0"), ALIKE)

    def test_what_is_written_is_read_as_it_was(self):
        numbers = Numbers(301)
        nets = NETS + tuple(numbers.net(16, 128) for _ in range(60)) + tuple(numbers.net() for _ in range(60))
        nets += tuple(rounds(k) for k in range(5)) + tuple(stairway(k) for k in range(5))
        nets += tuple(tree(k) for k in range(5)) + tuple(merger(k) for k in range(1, 5))
        for net in nets:
            told = read_net(show_net(net))
            self.assertEqual(told, net)
            self.assertIs(is_net(told), True)
            self.assertEqual(show_net(told), show_net(net))


class NoNetTest(Refusals):
    def refused(self, thing, row):
        self.assert_refused(read_net, thing, row)

    def test_no_text(self):
        for thing in anything() + [Plain(), Agreeing(), b"lanes 1\nends 0", ["lanes 1", "ends 0"], ("lanes 1", "ends 0"),
                                   FOUR, nested(60), 1, GREAT, bytearray(b"lanes 1\nends 0")]:
            self.refused(thing, 0)

    def test_first_row(self):
        for row in ("", "lanes", "lanes ", "lanes  2", " lanes 2", "lanes 2 ", "lanes 2 2", "lane 2", "Lanes 2", "lanes\t2",
                    "lanes2", "2", "lanes two", "lanes 0", "lanes -1", "lanes 17", "lanes 16 ", "lanes 100", "lanes 02",
                    "lanes -2", "lanes +2", "lanes 2.", "0 1", "ends 0 1", "\ufefflanes 2", "lanes 2\r", "lanes: 2",
                    "lanes " + "9" * 30, "lanes " + "2" * 31):
            self.refused(row + "\n0 1\nends 0 1", 0)
            self.refused(row, 0)
        for word in WRONG_NUMBERS:
            self.refused(f"lanes {word}\n0 1\nends 0 1", 0)

    def test_lanes_from_1_to_16(self):
        for lanes in range(-2, 20):
            text = f"lanes {lanes}\nends " + " ".join(str(lane) for lane in range(max(lanes, 1)))
            if 1 <= lanes <= 16:
                self.assertEqual(read_net(text), (lanes, (), tuple(range(lanes))))
            else:
                self.refused(text, 0)

    def test_a_fork_row(self):
        for row in ("", " ", "0", "0 ", " 0 1", "0  1", "0 1 ", "0 1 2", "0,1", "0 0", "2 2", "0 3", "3 0", "-1 0", "0 -1",
                    "0 99", "a b", "0 b", "(0, 1)", "0\t1", "0 1\r", "fork 0 1", "0 1\t", "00 1", "0 01", "0 -0", "lanes 3",
                    "end 0 1 2", "ends", "Ends 0 1 2", "0 " + "1" * 31, "0 " + "1" * 30):
            self.refused(f"lanes 3\n{row}\nends 0 1 2", 1)
            self.refused(f"lanes 3\n0 1\n1 2\n{row}\n2 0\nends 0 1 2", 3)
            self.refused(f"lanes 3\n0 1\n1 2\n{row}", 3)
        for word in WRONG_NUMBERS:
            self.refused(f"lanes 3\n0 1\n{word} 2\nends 0 1 2", 2)
            self.refused(f"lanes 3\n0 1\n2 {word}\nends 0 1 2", 2)

    def test_lanes_that_are_not_there(self):
        for lanes in (2, 3, 9, 16):
            ends = " ".join(str(lane) for lane in range(lanes))
            self.assertEqual(read_net(f"lanes {lanes}\n{lanes - 1} 0\nends {ends}")[1], ((lanes - 1, 0),))
            self.refused(f"lanes {lanes}\n{lanes} 0\nends {ends}", 1)
            self.refused(f"lanes {lanes}\n0 {lanes}\nends {ends}", 1)
        self.refused("lanes 1\n0 0\nends 0", 1)
        self.refused("lanes 1\n0 1\nends 0", 1)

    def test_an_ends_row(self):
        for row in ("ends", "ends ", "ends 0", "ends 0 1", "ends 0 1 1", "ends 0 0 1 2", "ends 0 1 2 2", "ends 0 1 2 3",
                    "ends 1 2 3", "ends 0 1 -2", "ends 0 1 02", "ends  0 1 2", "ends 0 1  2", "ends 0 1 2 ", " ends 0 1 2",
                    "ends 0,1,2", "end 0 1 2", "ENDS 0 1 2", "ends 0 1 2\r", "ends\t0 1 2", "ends 0 1 two", "ends 2 1 -0"):
            self.refused(f"lanes 3\n0 1\n{row}", 2)
            self.refused(f"lanes 3\n{row}", 1)
        for word in WRONG_NUMBERS:
            self.refused(f"lanes 3\n0 1\nends 0 {word} 2", 2)

    def test_rows_behind_the_ends(self):
        for row in ("", "0 1", "ends 0 1", "lanes 2", " ", "anything"):
            self.refused(f"lanes 2\n0 1\nends 0 1\n{row}", 3)
            self.refused(f"lanes 2\nends 0 1\n{row}", 2)
            self.refused(f"lanes 2\nends 0 1\n{row}\n0 1\nends 0 1", 2)

    def test_line_feeds_more(self):
        self.refused("\nlanes 2\n0 1\nends 0 1", 0)
        self.refused("lanes 2\n\n0 1\nends 0 1", 1)
        self.refused("lanes 2\n0 1\n\nends 0 1", 2)
        self.refused("lanes 2\n0 1\nends 0 1\n", 3)
        self.refused("lanes 2\n0 1\nends 0 1\n\n", 3)
        for sign in ("\r\n", "\r", "\v", "\f", "\x1c", "\u2028", "\x85"):
            self.refused(sign.join(("lanes 2", "0 1", "ends 0 1")), 0)

    def test_where_ends_lack(self):
        self.refused("lanes 2", 1)
        self.refused("lanes 2\n0 1", 2)
        self.refused("lanes 2\n0 1\n1 0\n0 1", 4)
        self.refused("lanes 2\n", 1)
        self.refused("lanes 2\n0 1\n", 2)
        self.refused("lanes 2" + "\n0 1" * 127, 128)
        self.refused("lanes 2" + "\n0 1" * 128, 129)

    def test_a_129th_fork(self):
        self.refused("lanes 2\n" + "0 1\n" * 129 + "ends 0 1", 129)
        self.refused("lanes 2\n" + "0 1\n" * 200 + "ends 0 1", 129)
        self.refused("lanes 2" + "\n0 1" * 129, 129)
        self.refused("lanes 2" + "\n0 1" * 150, 129)
        self.refused("lanes 2\n" + "0 1\n" * 127 + "0 2\n" + "0 1\n" * 9 + "ends 0 1", 128)

    def test_the_first_of_several(self):
        self.refused("lanes 17\n0 0\nends", 0)
        self.refused("lanes 2\n0 0\nends", 1)
        self.refused("lanes 2\n0 1\nends\n", 2)
        self.refused("lanes 2\n0 1\n0 2\n0 0\nends 5", 2)
        self.refused("lanes 2\nlanes 2\nends 0 1", 1)
        self.refused("ends 0 1\n0 1\nlanes 2", 0)
        self.refused("lanes 2\nends 0 1\n0 1", 2)

    def test_each_row_changed(self):
        for net in (FORK, ODD, FOUR, WIDE):
            rows = show_net(net).split("\n")
            for at in range(len(rows)):
                for row in ("", "x", rows[at] + " ", " " + rows[at], rows[at] + " 0", rows[at].replace(" ", "  "), "0 0"):
                    self.refused("\n".join(rows[:at] + [row] + rows[at + 1:]), at)
                self.refused("\n".join(rows[:at]), at)
            self.refused("\n".join(rows[1:]), 0)

    def test_texts_with_signs_changed(self):
        numbers = Numbers(302)
        texts = [show_net(net) for net in (ONE_LANE, FORK, FOUR, BARE, ODD)] + [show_net(numbers.net(16, 6)) for _ in range(20)]
        read, rows = 0, set()
        for _ in range(3000):
            text = numbers.pick(texts)
            for _ in range(1 + numbers.below(2)):
                at = numbers.below(len(text) + 1)
                sign = numbers.pick(("", "", " ", "\n", "0", "1", "2", "-", "e", "\n0 1", "\nends 0"))
                text = text[:at] + sign + text[at + numbers.below(2):]
            row = fault(text)
            if row is None:
                read += 1
                self.assertEqual(show_net(read_net(text)), text)
            else:
                rows.add(row)
                self.refused(text, row)
        self.assertGreater(read, 100)
        self.assertGreater(len(rows), 5)


class ReadCountsTest(unittest.TestCase):
    def test_by_hand(self):
        self.assertEqual(read_counts("0"), (0,))
        self.assertEqual(read_counts("5"), (5,))
        self.assertEqual(read_counts("-5"), (-5,))
        self.assertEqual(read_counts("3,0,-2"), (3, 0, -2))
        self.assertEqual(read_counts("10,100,-10"), (10, 100, -10))

    def test_thirty_figures(self):
        self.assertEqual(read_counts("9" * 30 + ",-" + "9" * 30), (GREAT, -GREAT))
        self.assertEqual(read_counts("1" + "0" * 29), (10 ** 29,))

    def test_what_is_written_is_read_as_it_was(self):
        numbers = Numbers(303)
        for lanes in range(1, 17):
            for low, high in ((0, 1), (-12, 12), (-GREAT, GREAT)):
                counts = numbers.counts(lanes, low, high)
                told = read_counts(show_counts(counts))
                self.assertEqual(told, counts)
                self.assertIs(type(told), tuple)
        for net in (FORK, FOUR, rounds(4)):
            for share in shares(net):
                self.assertEqual(read_counts(show_counts(share)), share)


class NoCountsTest(Refusals):
    def refused(self, thing):
        self.assert_refused(read_counts, thing, 0)

    def test_no_text(self):
        for thing in [thing for thing in anything() if thing != "0"] + [b"1,2", (1, 2), ["1"], 1, GREAT, Agreeing(), nested(60)]:
            self.refused(thing)

    def test_wrong_texts(self):
        for text in ("", ",", "1,", ",1", "1,,2", "1, 2", " 1,2", "1,2 ", "1 2", "1;2", "1,2\n", "\n1,2", "1\n2", "1,\n2", "a",
                     "1,a", "1.5", "(1,2)", "lanes 2", "1,-0", "00,1", "1,02", "1,+2", "1" * 31, "1,-" + "1" * 31, "1\t,2",
                     "1,2\r", "--1", "-"):
            self.refused(text)
        for word in WRONG_NUMBERS:
            self.refused(word)
            self.refused(f"1,{word},2")
            self.refused(f"{word},2")
            self.refused(f"1,{word}")

    def test_row_is_0_whatever_row_it_is_in(self):
        self.refused("1,2\n3,4")
        self.refused("1,2\n\n\n")

    def test_texts_with_signs_changed(self):
        numbers = Numbers(304)
        read = 0
        for _ in range(2000):
            text = show_counts(numbers.counts(1 + numbers.below(4), -20, 20))
            at = numbers.below(len(text) + 1)
            text = text[:at] + numbers.pick(("", " ", ",", "-", "0", "7", "\n")) + text[at + numbers.below(2):]
            if re.fullmatch(f"{NUMBER}(,{NUMBER})*", text):
                read += 1
                self.assertEqual(show_counts(read_counts(text)), text)
            else:
                self.refused(text)
        self.assertGreater(read, 300)


class SameAgainTest(unittest.TestCase):
    def test_nothing_changes(self):
        text = show_net(ODD)
        self.assertEqual(read_net(text), read_net(text))
        self.assertEqual(text, show_net(ODD))
        self.assertEqual(read_counts("4,-4"), read_counts("4,-4"))
        for read in (read_net, read_counts):
            for thing in (["lanes 1", "ends 0"], {"a": [1]}, [[]]):
                kept = copy.deepcopy(thing)
                for _ in range(2):
                    with self.assertRaises(NoText):
                        read(thing)
                self.assertEqual(thing, kept)


if __name__ == "__main__":
    unittest.main()
