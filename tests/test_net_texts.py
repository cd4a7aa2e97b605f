"""Texts of nets: points [3] and [5]."""

import re
import reprlib
import unittest

import samples
from cutweave.errors import BadNet
from cutweave.nets import Net, net_text, read_net

TEXT = (
    "process p 2\n"
    "process q 8\n"
    "process do 1\n"
    "channel c p q order\n"
    "channel p q p loose lossy\n"
    "channel send do p order lossy\n"
    "channel d q do loose\n"
    "rule p 0 do 1\n"
    "rule q 7 take c 9 0\n"
    "rule p 1 send c 0 0\n"
    "rule q 0 send p 3 7\n"
    "rule p 0 take p 3 0\n"
    "rule do 0 send send 5 0\n"
    "rule do 0 take d 5 0\n"
    "rule p 0 do 1\n"
)
NET = Net(
    (("p", 2), ("q", 8), ("do", 1)),
    (("c", 0, 1, "order"), ("p", 1, 0, "loose lossy"), ("send", 2, 0, "order lossy"), ("d", 1, 2, "loose")),
    ((0, 0, ("do",), 1), (1, 7, ("take", 0, 9), 0), (0, 1, ("send", 0, 0), 0), (1, 0, ("send", 1, 3), 7),
     (0, 0, ("take", 1, 3), 0), (2, 0, ("send", 2, 5), 0), (2, 0, ("take", 3, 5), 0), (0, 0, ("do",), 1)),
)


class LineOracle:
    """Tells of line after line whether a net's text can go on so, by patterns alone."""

    def __init__(self):
        self.states = {}
        self.ends = {}
        self.rules = 0

    def takes(self, line):
        if found := re.fullmatch(r"process ([a-z]{1,6}) ([1-8])", line, re.ASCII):
            name = found[1]
            if self.ends or self.rules or name in self.states or len(self.states) == 5:
                return False
            self.states[name] = int(found[2])
            return True
        if found := re.fullmatch(r"channel ([a-z]{1,6}) ([a-z]+) ([a-z]+) (order|loose)( lossy)?", line, re.ASCII):
            name, giver, taker = found[1], found[2], found[3]
            if self.rules or name in self.ends or len(self.ends) == 8 or giver == taker:
                return False
            self.ends[name] = {"send": giver, "take": taker}
            return giver in self.states and taker in self.states
        found = re.fullmatch(r"rule ([a-z]+) ([0-7]) (do|(send|take) ([a-z]+) [0-9]) ([0-7])", line, re.ASCII)
        self.rules += 1
        if not found or self.rules > 40 or found[1] not in self.states:
            return False
        states = self.states[found[1]]
        if int(found[2]) >= states or int(found[6]) >= states:
            return False
        return not found[4] or (found[5] in self.ends and self.ends[found[5]][found[4]] == found[1])


def first_wrong(text):
    """The number that BadNet must tell, None for the text of a net."""
    lines = text.split("\n")
    rest = lines.pop()
    oracle = LineOracle()
    for at, line in enumerate(lines):
        if not oracle.takes(line):
            return at
    return len(lines) if rest or not lines else None


def line_changes(line):
    """The line changed in many ways."""
    words = line.split(" ")
    others = ("", "p", "q", "x", "do", "send", "take", "process", "channel", "rule", "order", "lossy", "0", "1", "2", "8",
              "9", "10", "00", "01", "-1", "+1", "1_0", "\u0661", "\u00b2", "P", "abcdefg", "p\t", "1\r", "\u2028")
    for at in range(len(words)):
        yield " ".join(words[:at] + words[at + 1:])
        yield " ".join(words[:at] + [words[at]] + words[at:])
        for other in others:
            yield " ".join(words[:at] + [other] + words[at + 1:])
            yield " ".join(words[:at] + [other] + words[at:])
    for sign in " \t\r\v\f\x1c\x85\u2028\x00,:%#\u00e9A":
        for at in range(len(line) + 1):
            yield line[:at] + sign + line[at:]


def text_changes(text):
    """The text with one line changed, left out, doubled or moved, cut off anywhere, and the like."""
    lines = text.split("\n")[:-1]
    for at, line in enumerate(lines):
        rest = lines[:at] + lines[at + 1:]
        for changed in (*line_changes(line), ""):
            yield "\n".join(lines[:at] + [changed] + lines[at + 1:]) + "\n"
        for to in range(len(lines)):
            yield "\n".join(rest[:to] + [line] + rest[to:]) + "\n"
            yield "\n".join(lines[:to] + [line] + lines[to:]) + "\n"
            yield "\n".join(lines[:to] + [""] + lines[to:]) + "\n"
        yield "".join(other + "\n" for other in rest)
    for end in range(len(text)):
        yield text[:end]
    yield text.replace("\n", "\r\n")
    yield text.replace("\n", "\r")


class NetTexts(unittest.TestCase):

    def assert_bad(self, at, text):
        with self.assertRaises(BadNet, msg=reprlib.repr(text)) as caught:
            read_net(text)
        self.assertEqual(caught.exception.at, at, reprlib.repr(text))

    def test_text_of_a_net(self):
        self.assertEqual(net_text(NET), TEXT)
        self.assertEqual(net_text(net=NET), TEXT)
        self.assertEqual(net_text(samples.LONE), "process lone 1\n")

    def test_net_of_a_text(self):
        self.assertEqual(read_net(TEXT), NET)
        net = read_net(text=TEXT)
        self.assertEqual((net.processes, net.channels, net.rules), (NET.processes, NET.channels, NET.rules))
        for part in (net.processes, net.channels, net.rules):
            self.assertTrue(samples.is_tuple_throughout(part))

    def test_there_and_back(self):
        for net in (NET, samples.FOUR, samples.RING, samples.LONE):
            self.assertEqual(read_net(net_text(net)), net)

    def test_empty_text_and_missing_line_feeds(self):
        self.assert_bad(0, "")
        self.assert_bad(0, "\n")
        self.assert_bad(0, "process p 2")
        self.assert_bad(0, " ")
        self.assert_bad(1, "process p 2\nprocess q 2")
        self.assert_bad(1, "process p 2\np")
        self.assert_bad(1, "process p 2\n\n")
        self.assert_bad(1, "process p 2\n ")
        self.assert_bad(1, "process p 2\n\nprocess q 2\n")
        self.assert_bad(15, TEXT + "rule p 0 do 1")
        self.assert_bad(14, TEXT[:-1])

    def test_an_earlier_fault_is_told_first(self):
        self.assert_bad(0, "process p 9\nprocess q 2")
        self.assert_bad(1, "process p 2\nchannel c p q order\nrule p 0 do")

    def test_lines_that_are_wrong_because_of_earlier_ones(self):
        self.assert_bad(0, "channel c p q order\nprocess p 1\nprocess q 1\n")
        self.assert_bad(0, "rule p 0 do 0\n")
        self.assert_bad(2, "process p 1\nprocess q 1\nprocess p 1\n")
        self.assert_bad(2, "process p 1\nrule p 0 do 0\nprocess q 1\n")
        self.assert_bad(3, "process p 1\nprocess q 1\nrule p 0 do 0\nchannel c p q order\n")
        self.assert_bad(3, "process p 1\nprocess q 1\nchannel c p q order\nchannel c q p order\n")
        self.assert_bad(2, "process p 1\nprocess q 1\nchannel c p p order\n")
        self.assert_bad(3, "process p 1\nprocess q 1\nchannel c p q order\nrule q 0 send c 5 0\n")
        self.assert_bad(3, "process p 1\nprocess q 1\nchannel c p q order\nrule p 0 send c 5 1\n")

    def test_numbers_are_written_without_noughts_ahead(self):
        self.assert_bad(0, "process p 02\n")
        self.assert_bad(0, "process p 0\n")
        self.assert_bad(0, "process p 9\n")
        self.assert_bad(0, "process p " + "1" * 10000 + "\n")
        self.assert_bad(1, "process p 2\nrule p 00 do 1\n")
        self.assert_bad(1, "process p 2\nrule p 0 do 01\n")

    def test_limits_and_one_line_beyond(self):
        lines = [f"process {name} 1\n" for name in "abcde"]
        self.assertEqual(len(read_net("".join(lines)).processes), 5)
        self.assert_bad(5, "".join(lines) + "process f 1\n")
        lines.extend([f"channel {name} a b order\n" for name in "abcdefgh"])
        self.assertEqual(len(read_net("".join(lines)).channels), 8)
        self.assert_bad(13, "".join(lines) + "channel i a b order\n")
        lines.extend(["rule a 0 do 0\n"] * 40)
        net = read_net("".join(lines))
        self.assertEqual((len(net.processes), len(net.channels), len(net.rules)), (5, 8, 40))
        self.assertEqual(net_text(net), "".join(lines))
        self.assert_bad(53, "".join(lines) + "rule a 0 do 0\n")
        self.assert_bad(53, "".join(lines) + "rule a 0 do 0\n" * 100000)

    def test_all_small_changes(self):
        wrong = right = 0
        for text in text_changes(TEXT):
            at = first_wrong(text)
            if at is None:
                right += 1
                self.assertEqual(net_text(read_net(text)), text)
            else:
                wrong += 1
                self.assert_bad(at, text)
        self.assertGreater(right, 100)
        self.assertGreater(wrong, 5000)

    def test_what_is_no_string(self):
        for value in samples.ODD_VALUES:
            if not isinstance(value, str):
                self.assert_bad(0, value)
        self.assert_bad(0, TEXT.split("\n"))
        self.assert_bad(0, (TEXT,))


if __name__ == "__main__":
    unittest.main()
