"""Worlds and deeds: points [1] and [6] to [8]."""

import random
import reprlib
import unittest

import samples
from cutweave.errors import BadStep
from cutweave.nets import Net
from cutweave.worlds import done, owner, possible, start

FOUR = samples.FOUR
RING = samples.RING


def world_behind(net, *deeds):
    world = start(net)
    for deed in deeds:
        world = done(net, world, deed)
    return world


# On each channel of FOUR: 0 and 2 bear token 5, 1 and 3 bear token 6.
FILLED = world_behind(FOUR, *[("act", 2 * channel + token) for _ in range(2) for channel in range(4)
                              for token in range(2)])


class StepCase(unittest.TestCase):

    def assert_no_deed(self, net, deed):
        with self.assertRaises(BadStep, msg=reprlib.repr(deed)) as caught:
            owner(net, deed)
        self.assertEqual(caught.exception.at, 0)
        self.assert_not_done(net, start(net), deed)

    def assert_not_done(self, net, world, deed):
        with self.assertRaises(BadStep, msg=reprlib.repr(deed)) as caught:
            done(net, world, deed)
        self.assertEqual(caught.exception.at, 0)


class Start(StepCase):

    def test_start(self):
        self.assertEqual(start(FOUR), ((0, 0), (0, 0, 0, 0), ((), (), (), ())))
        self.assertEqual(start(net=RING), ((0, 0, 0), (0, 0, 0), ((), (), ())))
        self.assertEqual(start(samples.LONE), ((0,), (), ()))
        self.assertTrue(samples.is_tuple_throughout(start(FOUR)))


class Owner(StepCase):

    def test_acts(self):
        self.assertEqual(owner(FOUR, ("act", 0)), 0)
        self.assertEqual(owner(FOUR, ("act", 8)), 0)
        self.assertEqual(owner(FOUR, ("act", 18)), 1)
        self.assertEqual(owner(RING, ("act", 4)), 2)

    def test_takes(self):
        for k in (0, 1, 59, 60, 10 ** 5000):
            self.assertEqual(owner(FOUR, ("take", 9, k)), 1)
            self.assertEqual(owner(RING, ("take", 5, k)), 0)
            self.assertEqual(owner(RING, ("take", 3, k)), 2)

    def test_losses_belong_to_the_taker(self):
        for k in (0, 1, 59, 60, 10 ** 5000):
            self.assertEqual(owner(FOUR, ("lose", 2, k)), 1)
            self.assertEqual(owner(FOUR, ("lose", 3, k)), 1)
            self.assertEqual(owner(RING, ("lose", 1, k)), 2)
            self.assertEqual(owner(RING, ("lose", 2, k)), 0)

    def test_lists_and_names(self):
        self.assertEqual(owner(net=FOUR, deed=["act", 8]), 0)
        self.assertEqual(owner(deed=["take", 9, 3], net=FOUR), 1)
        self.assertEqual(owner(FOUR, ["lose", 3, 0]), 1)

    def test_rules_that_are_not_there_or_of_another_sort(self):
        for rule in (-1, -19, 19, 40, 10 ** 400, True, None, "0", "", (0,), [], samples.nested(100000)):
            self.assert_no_deed(FOUR, ("act", rule))
            self.assert_no_deed(FOUR, ("take", rule, 0))
        for rule in range(19):
            self.assert_no_deed(FOUR, ("take", rule, 0) if not 9 <= rule <= 16 else ("act", rule))
        self.assert_no_deed(samples.LONE, ("act", 0))

    def test_channels_that_are_not_there_or_not_lossy(self):
        for channel in (-1, -2, 0, 1, 4, 10 ** 400, None, "2", (2,), samples.nested(100000)):
            self.assert_no_deed(FOUR, ("lose", channel, 0))
        self.assert_no_deed(RING, ("lose", True, 0))
        self.assert_no_deed(samples.LONE, ("lose", 0, 0))

    def test_numbers_of_messages_that_are_none(self):
        for k in (-1, -10 ** 400, True, None, "0", (0,), [], samples.nested(100000)):
            self.assert_no_deed(FOUR, ("take", 9, k))
            self.assert_no_deed(FOUR, ("lose", 2, k))

    def test_values_of_other_forms(self):
        for deed in (("act",), ("act", 0, 0), ("act", 0, None), ("take", 9), ("take", 9, 0, 0), ("lose", 2), ("lose", 2, 0, 0),
                     ("do", 0), ("send", 0), ("Act", 0), ("act ", 0), ("", 0), (None, 0), (0, 0), ("begin", 0, 0),
                     ("mark", 0), (("act",), 0), (0, "act"), "act 0", "take 9 0", ["lose"], ("losing", 2, 0),
                     (None, 9, 0), (samples.nested(100000, "take"), 9, 0), *samples.ODD_VALUES):
            self.assert_no_deed(FOUR, deed)


class Possible(StepCase):

    def test_at_the_start(self):
        self.assertEqual(possible(FOUR, start(FOUR)), tuple(("act", rule) for rule in range(9)))
        self.assertEqual(possible(RING, start(RING)), (("act", 0), ("act", 4), ("act", 7)))
        self.assertEqual(possible(samples.LONE, start(samples.LONE)), ())

    def test_first_rules_then_losses_ascending(self):
        self.assertEqual(possible(FOUR, FILLED)[9:], (
            ("take", 9, 0),
            ("take", 11, 0), ("take", 11, 2), ("take", 12, 1), ("take", 12, 3),
            ("take", 13, 0),
            ("take", 15, 0), ("take", 15, 2), ("take", 16, 1), ("take", 16, 3),
            ("lose", 2, 0), ("lose", 3, 0), ("lose", 3, 1), ("lose", 3, 2), ("lose", 3, 3),
        ))

    def test_rules_only_in_their_state(self):
        self.assertEqual(possible(FOUR, ((1, 1), (0, 0, 0, 0), ((), (), (), ()))), (("act", 17),))
        self.assertEqual(possible(FOUR, ((1, 2), (0, 0, 0, 0), ((), (), (), ()))), (("act", 18),))

    def test_losses_in_any_state_of_the_taker(self):
        world = ((1, 2), (1, 1, 1, 2), (((0, 5),), ((0, 5),), ((0, 5),), ((0, 5), (1, 9))))
        self.assertEqual(possible(FOUR, world), (("act", 18), ("lose", 2, 0), ("lose", 3, 0), ("lose", 3, 1)))

    def test_rules_that_are_alike(self):
        net = Net((("p", 1), ("q", 1)), (("c", 0, 1, "loose"),),
                  ((1, 0, ("take", 0, 5), 0), (0, 0, ("send", 0, 5), 0), (1, 0, ("take", 0, 5), 0), (0, 0, ("send", 0, 5), 0)))
        world = world_behind(net, ("act", 1), ("act", 3))
        self.assertEqual(possible(net, world), (("take", 0, 0), ("take", 0, 1), ("act", 1), ("take", 2, 0), ("take", 2, 1),
                                                ("act", 3)))

    def test_lists_and_names(self):
        world = samples.listed(FILLED)
        told = possible(world=world, net=FOUR)
        self.assertEqual(told, possible(FOUR, FILLED))
        self.assertTrue(samples.is_tuple_throughout(told))
        self.assertEqual(world, samples.listed(FILLED))


class Done(StepCase):

    def test_do(self):
        self.assertEqual(done(FOUR, start(FOUR), ("act", 8)), ((1, 0), (0, 0, 0, 0), ((), (), (), ())))

    def test_sends_are_numbered_by_channel(self):
        world = world_behind(FOUR, ("act", 1), ("act", 6), ("act", 0))
        self.assertEqual(world, ((0, 0), (2, 0, 0, 1), (((0, 6), (1, 5)), (), (), ((0, 5),))))
        self.assertEqual(world_behind(RING, ("act", 0)), ((1, 0, 0), (1, 0, 0), (((0, 1),), (), ())))

    def test_numbers_are_not_used_again(self):
        world = world_behind(FOUR, ("act", 6), ("lose", 3, 0), ("act", 7))
        self.assertEqual(world, ((0, 0), (0, 0, 0, 2), ((), (), (), ((1, 6),))))

    def test_takes(self):
        states, sent, present = FILLED
        for rule, k, channel, then in ((9, 0, 0, 1), (11, 0, 1, 1), (11, 2, 1, 1), (12, 1, 1, 2), (12, 3, 1, 2),
                                       (13, 0, 2, 1), (15, 2, 3, 1), (16, 3, 3, 2)):
            left = tuple(message for message in present[channel] if message[0] != k)
            self.assertEqual(done(FOUR, FILLED, ("take", rule, k)),
                             ((0, then), sent, (*present[:channel], left, *present[channel + 1:])))

    def test_losses_leave_the_states(self):
        world = ((1, 2), (0, 0, 2, 2), ((), (), ((0, 5), (1, 6)), ((0, 5), (1, 6))))
        self.assertEqual(done(FOUR, world, ("lose", 2, 0)), ((1, 2), (0, 0, 2, 2), ((), (), ((1, 6),), ((0, 5), (1, 6)))))
        self.assertEqual(done(FOUR, world, ("lose", 3, 1)), ((1, 2), (0, 0, 2, 2), ((), (), ((0, 5), (1, 6)), ((0, 5),))))

    def test_channels_in_order_give_the_first_alone(self):
        for deed in (("take", 9, 2), ("take", 10, 1), ("take", 10, 0), ("take", 13, 2), ("take", 14, 1), ("lose", 2, 1)):
            self.assert_not_done(FOUR, FILLED, deed)
        world = done(FOUR, FILLED, ("lose", 2, 0))
        self.assert_not_done(FOUR, world, ("take", 13, 2))
        self.assertEqual(done(FOUR, world, ("take", 14, 1))[2][2], ((2, 5), (3, 6)))

    def test_takes_of_the_token_of_the_rule_alone(self):
        for deed in (("take", 10, 0), ("take", 11, 1), ("take", 12, 0), ("take", 14, 0), ("take", 15, 3), ("take", 16, 2)):
            self.assert_not_done(FOUR, FILLED, deed)

    def test_what_is_gone_or_not_sent_yet(self):
        for deed in (("take", 11, 0), ("take", 9, 0), ("lose", 3, 0), ("lose", 2, 0)):
            self.assert_not_done(FOUR, start(FOUR), deed)
        for deed in (("take", 11, 4), ("take", 11, 10 ** 400), ("lose", 3, 4), ("lose", 3, 10 ** 400)):
            self.assert_not_done(FOUR, FILLED, deed)
        world = world_behind(FOUR, ("act", 2), ("act", 6), ("take", 11, 0), ("lose", 3, 0), ("act", 17))
        for deed in (("take", 11, 0), ("take", 15, 0), ("lose", 3, 0)):
            self.assert_not_done(FOUR, world, deed)

    def test_rules_of_another_state(self):
        world = done(FOUR, FILLED, ("act", 8))
        for deed in (("act", 8), ("act", 0), ("act", 17)):
            self.assert_not_done(FOUR, world, deed)
        self.assert_not_done(FOUR, done(FOUR, world, ("take", 9, 0)), ("take", 11, 0))

    def test_what_is_no_deed(self):
        for deed in (("take", 0, 0), ("act", 9), ("act", 19), ("lose", 0, 0), ("lose", 1, 0), ("take", 9, -1),
                     ("lose", 3, True), *samples.ODD_VALUES):
            self.assert_not_done(FOUR, FILLED, deed)

    def test_lists_and_names(self):
        world, deed = samples.listed(FILLED), ["take", 11, 2]
        told = done(deed=deed, world=world, net=FOUR)
        self.assertEqual(told, done(FOUR, FILLED, ("take", 11, 2)))
        self.assertTrue(samples.is_tuple_throughout(told))
        self.assertEqual((world, deed), (samples.listed(FILLED), ["take", 11, 2]))
        world[2][0].clear()
        deed[2] = 0
        self.assertEqual(told, done(FOUR, FILLED, ("take", 11, 2)))

    def test_lists_come_back_as_tuples_for_each_sort_of_deed(self):
        for deed in possible(FOUR, FILLED):
            world = done(FOUR, samples.listed(FILLED), list(deed))
            self.assertTrue(samples.is_tuple_throughout(world))
            self.assertEqual(world, done(FOUR, FILLED, deed))

    def test_a_call_that_raises_changes_nothing(self):
        world, deed = samples.listed(FILLED), ["take", 9, 1]
        self.assert_not_done(FOUR, world, deed)
        self.assertEqual((world, deed), (samples.listed(FILLED), ["take", 9, 1]))


class Model:
    """A net that keeps its messages in its own way: each as a dict, marked when it is gone."""

    def __init__(self, net):
        self.net = net
        self.states = [0] * len(net.processes)
        self.messages = [[] for _ in net.channels]

    def left(self, channel):
        return [message for message in self.messages[channel] if not message["gone"]]

    def can(self, deed):
        word, number = deed[:2]
        if word != "lose":
            process, state, act, _ = self.net.rules[number]
            if (word == "take") != (act[0] == "take") or self.states[process] != state:
                return False
            if word == "act":
                return True
        channel = number if word == "lose" else act[1]
        kind = self.net.channels[channel][3].split(" ")
        left = self.left(channel)
        here = [message for message in left if message["k"] == deed[2]]
        if not here or (kind[0] == "order" and left[0]["k"] != deed[2]):
            return False
        return kind[-1] == "lossy" if word == "lose" else here[0]["token"] == act[2]

    def do(self, deed):
        channel = deed[1]
        if deed[0] != "lose":
            process, _, act, self.states[process] = self.net.rules[deed[1]]
            channel = act[1] if len(act) == 3 else None
        if deed[0] != "act":
            self.messages[channel][deed[2]]["gone"] = True
        elif channel is not None:
            row = self.messages[channel]
            row.append({"k": len(row), "token": act[2], "gone": False})

    def world(self):
        return (tuple(self.states), tuple(len(row) for row in self.messages),
                tuple(tuple((message["k"], message["token"]) for message in self.left(channel))
                      for channel in range(len(self.messages))))

    def conceivable(self):
        most = max([len(row) for row in self.messages], default=0) + 1
        rules, channels = range(len(self.net.rules)), range(len(self.net.channels))
        for rule in rules:
            yield ("act", rule)
            yield from (("take", rule, k) for k in range(most))
        yield from (("lose", channel, k) for channel in channels for k in range(most))


class AgainstTheModel(StepCase):

    def walk(self, net, chance):
        model, world = Model(net), start(net)
        for _ in range(25):
            self.assertEqual(world, model.world())
            expected = tuple(deed for deed in model.conceivable() if model.can(deed))
            self.assertEqual(possible(net, world), expected)
            for deed in model.conceivable():
                if deed not in expected:
                    self.assert_not_done(net, world, deed)
            if not expected:
                return
            deed = chance.choice(expected)
            world = done(net, world, deed)
            model.do(deed)

    def test_walks(self):
        for seed in range(15):
            for net in (FOUR, RING, samples.LONE):
                self.walk(net, random.Random(seed))


if __name__ == "__main__":
    unittest.main()
