"""Clocks: points [1] and [12]."""

import random
import unittest

import samples
import trials
from cutweave.clocks import ahead, clocks
from cutweave.errors import BadStep, BadValue
from cutweave.histories import history

FOUR = samples.FOUR
RING = samples.RING
NETS = (FOUR, RING, trials.PAIR, trials.MIXED)
TOLD = history(FOUR, (("act", 4), ("act", 5), ("lose", 2, 0), ("act", 0), ("take", 14, 1)))
NO_HISTORIES = ((), ((),), ((), (), ()), ((), (("take", 9, 0),)), ((("act", 0),) * 61, ()), ((("act", 99),), ()))


def random_histories(most, seeds):
    for seed in range(seeds):
        for net in NETS:
            yield net, history(net, trials.random_run(net, random.Random(seed), most))


class Clocks(samples.RaisesCase):

    def test_by_closing_over_the_rules(self):
        for net, told in random_histories(20, 15):
            pairs = trials.pairs_ahead(net, told)
            expected = tuple(tuple(tuple(
                sum(one[0] == other and (one == (process, at) or (one, (process, at)) in pairs) for one in trials.events(told))
                for other in range(len(told))) for at in range(len(row))) for process, row in enumerate(told))
            self.assertEqual(clocks(net, told), expected)

    def test_takes_and_losses_know_the_send(self):
        self.assertEqual(TOLD[0], (("act", 4), ("act", 5), ("act", 0)))
        self.assertEqual(clocks(FOUR, TOLD), (((1, 0), (2, 0), (3, 0)), ((1, 1), (2, 2))))

    def test_what_is_known_is_not_forgotten(self):
        told = ((("act", 6), ("act", 7)), (("take", 16, 1), ("act", 18), ("take", 15, 0)))
        self.assertEqual(clocks(FOUR, told), (((1, 0), (2, 0)), ((2, 1), (2, 2), (2, 3))))

    def test_over_a_third_process(self):
        told = history(RING, (("act", 0), ("take", 1, 0), ("act", 2), ("lose", 1, 0), ("act", 4), ("take", 5, 0)))
        self.assertEqual(clocks(RING, told), (
            ((1, 0, 0), (2, 2, 2)), ((1, 1, 0), (1, 2, 0)), ((1, 2, 1), (1, 2, 2))))

    def test_processes_without_events(self):
        self.assertEqual(clocks(FOUR, ((), ())), ((), ()))
        self.assertEqual(clocks(samples.LONE, ((),)), ((),))
        self.assertEqual(clocks(RING, ((), (), (("act", 4),))), ((), (), ((0, 0, 1),)))

    def test_lists_and_names(self):
        told = samples.listed(TOLD)
        found = clocks(told=told, net=FOUR)
        self.assertEqual(found, clocks(FOUR, TOLD))
        self.assertTrue(samples.is_tuple_throughout(found))
        self.assertEqual(told, samples.listed(TOLD))

    def test_60_events(self):
        told = history(FOUR, [("act", 2)] * 30 + [("take", 11, 29), ("act", 17)] + [("act", 2)] * 28)
        self.assertEqual(clocks(FOUR, told)[0][-1], (58, 0))
        self.assertEqual(clocks(FOUR, told)[1], ((30, 1), (30, 2)))

    def test_what_is_no_history(self):
        for told in (*NO_HISTORIES, *samples.ODD_VALUES):
            self.assert_raises(BadStep, 0, clocks, FOUR, told)


class Ahead(samples.RaisesCase):

    def test_all_pairs_by_closing_over_the_rules(self):
        for net, told in random_histories(9, 6):
            pairs = trials.pairs_ahead(net, told)
            for one in trials.events(told):
                for other in trials.events(told):
                    self.assertIs(ahead(net, told, one, other), (one, other) in pairs)

    def test_as_the_clocks_tell(self):
        for net, told in random_histories(10, 4):
            rows = clocks(net, told)
            for one in trials.events(told):
                for other in trials.events(told):
                    told_by_clock = one != other and rows[other[0]][other[1]][one[0]] > one[1]
                    self.assertIs(ahead(net, told, one, other), told_by_clock)

    def test_an_event_is_not_ahead_of_itself(self):
        for event in trials.events(TOLD):
            self.assertIs(ahead(FOUR, TOLD, event, event), False)
            self.assertIs(ahead(FOUR, TOLD, list(event), event), False)
            self.assertIs(ahead(FOUR, TOLD, event, list(event)), False)

    def test_lists_and_names(self):
        told, one, other = samples.listed(TOLD), [0, 1], [1, 1]
        self.assertIs(ahead(other=other, one=one, told=told, net=FOUR), True)
        self.assertIs(ahead(FOUR, told, other, one), False)
        self.assertEqual((told, one, other), (samples.listed(TOLD), [0, 1], [1, 1]))

    def test_what_is_no_event(self):
        for wrong in ((0, 3), (1, 2), (0, 60), (0, 10 ** 400), (0, -1), (-1, 0), (2, 0), (10 ** 400, 0), (0,), (0, 0, 0), (0, None),
                      (None, 0), ("0", 0), (0, "0"), (0, True), (False, 0), (0, (0,)), "00", "ab", ((0, 0),),
                      *[value for value in samples.ODD_VALUES if value != (0, 0)]):
            self.assert_raises(BadValue, 2, ahead, FOUR, TOLD, wrong, (1, 0))
            self.assert_raises(BadValue, 3, ahead, FOUR, TOLD, (1, 0), wrong)
            self.assert_raises(BadValue, 2, ahead, FOUR, TOLD, wrong, wrong)
            self.assert_raises(BadValue, 2, ahead, FOUR, TOLD, wrong, None)

    def test_no_event_of_a_process_that_does_nothing(self):
        self.assert_raises(BadValue, 2, ahead, FOUR, ((("act", 0),), ()), (1, 0), (0, 0))
        self.assert_raises(BadValue, 3, ahead, FOUR, ((("act", 0),), ()), (0, 0), (1, 0))

    def test_what_is_no_history_comes_first(self):
        for told in (*NO_HISTORIES, *samples.ODD_VALUES):
            for one, other in (((0, 0), (0, 0)), (None, (0, 0)), ((0, 0), None), ("", [])):
                self.assert_raises(BadStep, 0, ahead, FOUR, told, one, other)


if __name__ == "__main__":
    unittest.main()
