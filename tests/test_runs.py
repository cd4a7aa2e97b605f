"""Runs: points [1], [3] and [9], and the example of section 1."""

import random
import unittest

import samples
import trials
from cutweave.cuts import is_cut
from cutweave.errors import BadStep
from cutweave.histories import history
from cutweave.nets import read_net
from cutweave.runs import played
from cutweave.worlds import done, start

FOUR = samples.FOUR
RING = samples.RING
NO_SEQUENCES = (None, 0, 1, -1, 10 ** 400, True, "", "act", "act 0", "take 9 0")


class Played(samples.RaisesCase):

    def assert_stops(self, net, deeds, at):
        self.assert_raises(BadStep, at, played, net, deeds)

    def test_the_example_of_section_1(self):
        net = read_net("process p 2\nprocess q 2\nchannel c p q order\nrule p 0 send c 5 1\nrule q 0 take c 5 1\n")
        deeds = (("act", 0), ("take", 1, 0))
        told = history(net, deeds)
        self.assertEqual(told, ((("act", 0),), (("take", 1, 0),)))
        self.assertEqual((is_cut(net, told, (1, 0)), is_cut(net, told, (0, 1))), (True, False))
        self.assertEqual(played(net, deeds)[1], ((1, 0), (1,), (((0, 5),),)))

    def test_the_empty_run(self):
        for net in (FOUR, RING, samples.LONE):
            self.assertEqual(played(net, ()), (start(net),))
            self.assertEqual(played(net, []), (start(net),))

    def test_all_worlds(self):
        deeds = (("act", 4), ("act", 6), ("act", 7), ("take", 16, 1), ("lose", 3, 0), ("act", 18), ("take", 13, 0))
        worlds = played(FOUR, deeds)
        self.assertEqual(len(worlds), len(deeds) + 1)
        self.assertEqual(worlds[0], start(FOUR))
        for at, deed in enumerate(deeds):
            self.assertEqual(worlds[at + 1], done(FOUR, worlds[at], deed))
        self.assertEqual(worlds[-1], ((0, 1), (0, 0, 1, 2), ((), (), (), ())))

    def test_worlds_of_random_runs(self):
        for seed in range(10):
            for net in (FOUR, RING, trials.PAIR, trials.MIXED):
                deeds = trials.random_run(net, random.Random(seed), 30)
                worlds = played(net, deeds)
                self.assertEqual(len(worlds), len(deeds) + 1)
                for at, world in enumerate(worlds):
                    self.assertEqual(world, trials.world_behind(net, deeds[:at]))

    def test_lists_and_names(self):
        deeds = [["act", 6], ("take", 15, 0), ["act", 17]]
        told = played(deeds=deeds, net=FOUR)
        self.assertEqual(told, played(FOUR, (("act", 6), ("take", 15, 0), ("act", 17))))
        self.assertTrue(samples.is_tuple_throughout(told))
        self.assertEqual(deeds, [["act", 6], ("take", 15, 0), ["act", 17]])
        deeds[0][1] = 7
        self.assertEqual(told, played(FOUR, (("act", 6), ("take", 15, 0), ("act", 17))))

    def test_the_first_deed_that_can_not_be_done(self):
        right = (("act", 0), ("act", 1), ("take", 9, 0), ("act", 17), ("take", 10, 1), ("act", 18))
        for at in range(len(right) + 1):
            for wrong in (("take", 9, 5), ("act", 99), ("lose", 0, 0), ("act", 9), ("take", 12, 0), None, "act", 3, ()):
                self.assert_stops(FOUR, (*right[:at], wrong, *right[at:]), at)
                self.assert_stops(FOUR, [*right[:at], wrong, wrong], at)
                self.assert_stops(FOUR, [*right[:at], wrong, *[("act", 0)] * 80], at)

    def test_what_is_no_deed(self):
        for wrong in samples.ODD_VALUES:
            self.assert_stops(FOUR, (("act", 0), wrong), 1)
            self.assert_stops(FOUR, [wrong, ("act", 0)], 0)

    def test_what_is_no_sequence(self):
        for wrong in NO_SEQUENCES:
            self.assert_stops(FOUR, wrong, 0)
            self.assert_stops(samples.LONE, wrong, 0)

    def test_rows_that_are_not_of_deeds(self):
        for wrong in (samples.DEEP, [None], ("act", 0), ["act"], (("act",),)):
            self.assert_stops(FOUR, wrong, 0)

    def test_just_60_deeds(self):
        self.assertEqual(len(played(FOUR, [("act", 0)] * 60)), 61)
        self.assertEqual(played(FOUR, [("act", 0)] * 60)[-1][1], (60, 0, 0, 0))
        self.assert_stops(FOUR, [("act", 0)] * 59 + [("act", 17)], 59)

    def test_a_61st_deed(self):
        for last in (("act", 0), ("act", 17), ("take", 10, 0), None, "act", samples.DEEP):
            self.assert_stops(FOUR, [("act", 0)] * 60 + [last], 60)
            self.assert_stops(FOUR, [("act", 0)] * 60 + [last] * 40, 60)
            self.assert_stops(FOUR, [("act", 0)] * 60 + [last, ("act", 0)], 60)

    def test_a_wrong_deed_ahead_of_the_61st(self):
        for at in (0, 1, 30, 59):
            self.assert_stops(FOUR, [("act", 0)] * at + [("act", 17)] + [("act", 0)] * 80, at)

    def test_asked_twice(self):
        deeds = trials.random_run(FOUR, random.Random(5), 40)
        self.assertEqual(played(FOUR, deeds), played(FOUR, list(deeds)))


if __name__ == "__main__":
    unittest.main()
