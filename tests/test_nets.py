"""Nets: points [1], [3] and [4]."""

import reprlib
import unittest

import samples
from cutweave.errors import BadValue
from cutweave.nets import Net

PROCESSES = (("p", 2), ("q", 3))
CHANNELS = (("c", 0, 1, "order"), ("d", 1, 0, "loose lossy"))
RULES = ((0, 0, ("do",), 1), (0, 1, ("send", 0, 5), 0), (0, 0, ("take", 1, 9), 1), (1, 2, ("take", 0, 0), 0))


def abc(many):
    return ["abcdefghijklmnop"[at] for at in range(many)]


class NetCase(unittest.TestCase):

    def assert_wrong(self, at, *parts):
        with self.assertRaises(BadValue, msg=reprlib.repr(parts)) as caught:
            Net(*parts)
        self.assertEqual(caught.exception.at, at)

    def wrong_process(self, row):
        for rows in ((row,), [row], (("ok", 1), row)):
            self.assert_wrong(0, rows, (), ())

    def wrong_channel(self, row):
        self.assert_wrong(1, PROCESSES, (row,), ())
        self.assert_wrong(1, PROCESSES, [("ok", 0, 1, "order"), row], ())

    def wrong_rule(self, row):
        self.assert_wrong(2, PROCESSES, CHANNELS, (row,))
        self.assert_wrong(2, PROCESSES, CHANNELS, [*RULES, row])


class Made(NetCase):

    def test_attributes_are_tuples_of_tuples(self):
        for parts in ((PROCESSES, CHANNELS, RULES), samples.listed((PROCESSES, CHANNELS, RULES))):
            net = Net(*parts)
            self.assertEqual((net.processes, net.channels, net.rules), (PROCESSES, CHANNELS, RULES))
            for part in (net.processes, net.channels, net.rules):
                self.assertTrue(samples.is_tuple_throughout(part))

    def test_by_name(self):
        net = Net(rules=RULES, channels=CHANNELS, processes=PROCESSES)
        self.assertEqual(net, Net(PROCESSES, CHANNELS, RULES))

    def test_later_changes_have_no_effect(self):
        parts = samples.listed((PROCESSES, CHANNELS, RULES))
        net = Net(*parts)
        parts[0][0][1] = 8
        parts[1][0][3] = "loose"
        parts[2][1][2][2] = 7
        parts[2][0][2].append(3)
        for part in parts:
            part.pop()
        self.assertEqual((net.processes, net.channels, net.rules), (PROCESSES, CHANNELS, RULES))

    def test_arguments_stay_as_they_were(self):
        parts = samples.listed((PROCESSES, CHANNELS, RULES))
        Net(*parts)
        self.assertEqual(parts, samples.listed((PROCESSES, CHANNELS, RULES)))
        parts[2].append([0, 9, ["do"], 0])
        before = samples.listed(parts)
        self.assert_wrong(2, *parts)
        self.assertEqual(parts, before)

    def test_the_attributes_are_set_on_the_object(self):
        self.assertEqual(sorted(vars(samples.LONE)), ["channels", "processes", "rules"])

    def test_equal_and_unlike(self):
        net = Net(PROCESSES, CHANNELS, RULES)
        self.assertIs(net == Net(*samples.listed((PROCESSES, CHANNELS, RULES))), True)
        self.assertIs(net != Net(PROCESSES, CHANNELS, RULES), False)
        for other in (
            Net((("p", 2), ("r", 3)), CHANNELS, RULES), Net((("p", 3), ("q", 3)), CHANNELS, RULES),
            Net((*PROCESSES, ("r", 1)), CHANNELS, RULES),
            Net(PROCESSES, (("c", 0, 1, "order lossy"), CHANNELS[1]), RULES), Net(PROCESSES, CHANNELS[:1], RULES[:2]),
            Net(PROCESSES, CHANNELS, RULES[:3]), Net(PROCESSES, CHANNELS, RULES[::-1]),
        ):
            self.assertIs(net == other, False)
            self.assertIs(other != net, True)
        self.assertEqual(Net([("p", 1)], [], []), Net((["p", 1],), (), ()))

    def test_unlike_to_what_is_no_net(self):
        for other in (None, 0, "", (PROCESSES, CHANNELS, RULES), object()):
            self.assertIs(samples.LONE == other, False)

    def test_equality_is_defined_in_the_class(self):
        self.assertIn("__eq__", vars(Net))
        self.assertIn("__init__", vars(Net))


class Processes(NetCase):

    def test_one_to_five(self):
        self.assert_wrong(0, (), (), ())
        self.assert_wrong(0, [], [], [])
        for many in range(1, 6):
            self.assertEqual(len(Net([(name, 1) for name in abc(many)], (), ()).processes), many)
        self.assert_wrong(0, [(name, 1) for name in abc(6)], (), ())

    def test_one_to_eight_states(self):
        for states in range(1, 9):
            self.assertEqual(Net((("p", states),), (), ()).processes, (("p", states),))
        for states in (0, -1, 9, 10 ** 400, True, False, None, "2", (2,), [], samples.nested(100000)):
            self.wrong_process(("p", states))

    def test_names(self):
        for name in ("a", "z", "abcdef", "order", "do"):
            self.assertEqual(Net(((name, 1),), (), ()).processes, ((name, 1),))
        for name in ("", "abcdefg", "P", "pQ", "p1", "1", "p q", " p", "p ", "p\n", "p_", "\u00e9", "\u03b1", "\uff41",
                     None, 1, ("p",), ["p"], samples.nested(100000)):
            self.wrong_process((name, 1))

    def test_equal_names(self):
        self.assert_wrong(0, (("p", 1), ("q", 1), ("p", 2)), (), ())
        self.assertEqual(len(Net((("p", 1), ("pp", 1)), (), ()).processes), 2)

    def test_rows_of_other_lengths_and_kinds(self):
        for row in ((), ("p",), ("p", 1, 1), ["p", 1, None], "p1", "p", None, 1, 0, (1, "p"), *samples.ODD_VALUES):
            self.wrong_process(row)

    def test_other_things_in_place_of_all(self):
        for value in samples.ODD_VALUES:
            self.assert_wrong(0, value, (), ())
            self.assert_wrong(0, value, CHANNELS, RULES)


class Channels(NetCase):

    def test_up_to_eight(self):
        for many in range(9):
            rows = [(name, 0, 1, "loose") for name in abc(many)]
            self.assertEqual(Net(PROCESSES, rows, ()).channels, tuple(rows))
        self.assert_wrong(1, PROCESSES, [(name, 0, 1, "loose") for name in abc(9)], ())

    def test_kinds(self):
        for kind in ("order", "loose", "order lossy", "loose lossy"):
            self.assertEqual(Net(PROCESSES, [["c", 1, 0, kind]], ()).channels, (("c", 1, 0, kind),))
        for kind in ("", "lossy", "Order", "order ", " order", "order  lossy", "lossy order", "orderlossy", "order loose",
                     None, 0, ("order",), ["order", "lossy"], ("order", "lossy"), samples.nested(100000, "order")):
            self.wrong_channel(("c", 0, 1, kind))

    def test_names(self):
        for name in ("a", "abcdef"):
            self.assertEqual(Net(PROCESSES, ((name, 0, 1, "order"),), ()).channels[0][0], name)
        for name in ("", "abcdefg", "C", "c1", "c d", "c ", "\u00e9", None, 0, ("c",), samples.nested(100000)):
            self.wrong_channel((name, 0, 1, "order"))

    def test_equal_names(self):
        self.assert_wrong(1, PROCESSES, (("c", 0, 1, "order"), ("c", 1, 0, "loose")), ())

    def test_a_process_may_have_the_name(self):
        net = Net(PROCESSES, (("p", 0, 1, "order"), ("q", 0, 1, "order")), ())
        self.assertEqual([row[0] for row in net.channels], ["p", "q"])

    def test_giver_and_taker(self):
        for ends in ((0, 0), (1, 1), (0, 2), (2, 0), (-1, 0), (0, -1), (-1, -2), (5, 6), (10 ** 400, 0), (True, 0),
                     (0, True), (None, 1), (0, None), ("p", "q"), ("0", "1"), ((0,), 1), (0, [1])):
            self.wrong_channel(("c", *ends, "order"))
        self.assert_wrong(1, (("p", 1),), (("c", 0, 0, "order"),), ())

    def test_rows_of_other_lengths_and_kinds(self):
        for row in (("c", 0, 1), ("c", 0, 1, "order", "lossy"), ("c", 0, 1, "order", None), "c01o", *samples.ODD_VALUES):
            self.wrong_channel(row)

    def test_other_things_in_place_of_all(self):
        for value in samples.ODD_VALUES:
            if value not in ((), []):
                self.assert_wrong(1, PROCESSES, value, ())
                self.assert_wrong(1, PROCESSES, value, RULES)


class Rules(NetCase):

    def test_up_to_forty(self):
        for many in (0, 1, 39, 40):
            rows = [RULES[at % 4] for at in range(many)]
            self.assertEqual(Net(PROCESSES, CHANNELS, rows).rules, tuple(rows))
        self.assert_wrong(2, PROCESSES, CHANNELS, [RULES[0]] * 41)

    def test_two_may_be_alike(self):
        self.assertEqual(Net(PROCESSES, CHANNELS, RULES + RULES).rules, RULES + RULES)

    def test_tokens(self):
        for token in range(10):
            rows = ((0, 0, ("send", 0, token), 0), (1, 0, ("take", 0, token), 0))
            self.assertEqual(Net(PROCESSES, CHANNELS, rows).rules, rows)
        for token in (-1, 10, 10 ** 400, True, None, "5", (5,)):
            self.wrong_rule((0, 0, ("send", 0, token), 0))
            self.wrong_rule((1, 0, ("take", 0, token), 0))

    def test_states(self):
        for process, states in ((0, 2), (1, 3)):
            for state in range(states):
                rows = ((process, state, ("do",), states - 1 - state),)
                self.assertEqual(Net(PROCESSES, CHANNELS, rows).rules, rows)
            for state in (-1, states, 8, 10 ** 400, True, None, "0", (0,), ()):
                self.wrong_rule((process, state, ("do",), 0))
                self.wrong_rule((process, 0, ("do",), state))

    def test_processes(self):
        for process in (-1, 2, 5, 10 ** 400, False, None, "p", "0", (0,)):
            self.wrong_rule((process, 0, ("do",), 0))

    def test_acts_of_other_words_or_lengths(self):
        for act in ("do", (), [], ("Do",), ("did",), ("send",), ("take",), ("lose",), ("do", 0), ("do", 0, 5), ("send", 0),
                    ("send", 0, 5, 1), ("take", 1), ("lose", 0, 5), ("", 0, 5), (None, 0, 5), (0, 0, 5), ((), 0, 5),
                    (("do",),), (["send"], 0, 5), samples.nested(100000, "do"), None, 0, 1):
            self.wrong_rule((0, 0, act, 0))

    def test_channels_of_others(self):
        self.wrong_rule((1, 0, ("send", 0, 5), 0))
        self.wrong_rule((0, 0, ("take", 0, 5), 0))
        self.wrong_rule((0, 0, ("send", 1, 5), 0))
        self.wrong_rule((1, 0, ("take", 1, 5), 0))
        three = (*PROCESSES, ("r", 1))
        for word in ("send", "take"):
            self.assert_wrong(2, three, CHANNELS, ((2, 0, (word, 0, 5), 0),))

    def test_channels_that_are_not_there(self):
        for channel in (-1, -2, 2, 10 ** 400, False, None, "c", "0", (0,)):
            self.wrong_rule((0, 0, ("send", channel, 5), 0))
        self.assert_wrong(2, PROCESSES, (), ((0, 0, ("send", 0, 5), 0),))

    def test_rows_of_other_lengths_and_kinds(self):
        for row in ((0, 0, ("do",)), (0, 0, ("do",), 0, 0), (0, 0, "do", 0), "00d0", *samples.ODD_VALUES):
            self.wrong_rule(row)

    def test_other_things_in_place_of_all(self):
        for value in samples.ODD_VALUES:
            if value not in ((), []):
                self.assert_wrong(2, PROCESSES, CHANNELS, value)


class FirstFault(NetCase):

    def test_the_first_of_several_is_told(self):
        for bad in (None, 5, "x", (None,), ((),)):
            self.assert_wrong(0, bad, bad, bad)
            self.assert_wrong(0, bad, bad, RULES)
            self.assert_wrong(0, bad, CHANNELS, bad)
            self.assert_wrong(1, PROCESSES, bad, bad)
        # What is wrong with a later part because of an earlier one is told of the earlier one.
        self.assert_wrong(0, (), CHANNELS, RULES)
        self.assert_wrong(1, PROCESSES, (("c", 0, 0, "order"),), RULES)


if __name__ == "__main__":
    unittest.main()
