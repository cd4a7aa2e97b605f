"""Keeping: points [1] and [34]."""

import random
import unittest

import samples
import test_lattice
import trials
from cutweave.cuts import run_through, world_at
from cutweave.errors import BadCut, BadStep, BadValue
from cutweave.histories import history, is_history
from cutweave.keeping import local_state, replayed, resent, resumed
from cutweave.nets import Net
from cutweave.runs import played
from cutweave.worlds import done, owner

FOUR = samples.FOUR
NETS = (FOUR, samples.RING, trials.PAIR, trials.MIXED)
TOLD = test_lattice.TOLD
STEPPER = Net((("p", 1),), (), ((0, 0, ("do",), 0),))


class LocalState(samples.RaisesCase):

    def test_behind_each_number_of_deeds(self):
        for net in NETS:
            for seed in range(8):
                run = trials.random_run(net, random.Random(seed), 40)
                told = history(net, run)
                counts = [0] * len(told)
                for world, deed in zip(played(net, run), (*run, None)):
                    for process, many in enumerate(counts):
                        self.assertEqual(local_state(net, told, process, many), world[0][process])
                    if deed is not None:
                        counts[owner(net, deed)] += 1

    def test_losses_leave_it(self):
        self.assertEqual(TOLD[1], (("take", 15, 2), ("act", 17), ("lose", 3, 1), ("take", 16, 3)))
        self.assertEqual([local_state(FOUR, TOLD, 1, many) for many in range(5)], [0, 1, 0, 0, 2])
        self.assertEqual(local_state(samples.LONE, ((),), 0, 0), 0)

    def test_what_is_no_process(self):
        for process in (*samples.ODD_VALUES, 2, "p", [0], (0,)):
            if process is True or process is False or process not in (0, 1):
                for many in (0, 99, None):
                    self.assert_raises(BadValue, 2, local_state, FOUR, TOLD, process, many)

    def test_what_is_no_number_of_its_deeds(self):
        for many in (*samples.ODD_VALUES, 5, 6, -1, "0", [0], (0,), 61):
            if many is True or many is False or many not in (0, 1):
                self.assert_raises(BadValue, 3, local_state, FOUR, TOLD, 0, many)
                self.assert_raises(BadValue, 3, local_state, samples.LONE, ((),), 0, many)
        self.assertEqual(local_state(FOUR, TOLD, 0, 4), 0)
        self.assert_raises(BadValue, 3, local_state, samples.LONE, ((),), 0, 1)

    def test_what_is_no_history(self):
        for told in (*test_lattice.NO_HISTORIES, *samples.ODD_VALUES):
            if not is_history(FOUR, told):
                for process, many in ((0, 0), (9, 0), (0, None), (samples.DEEP, samples.DEEP)):
                    self.assert_raises(BadStep, 0, local_state, FOUR, told, process, many)

    def test_lists_and_names(self):
        told = samples.listed(TOLD)
        self.assertEqual(local_state(many=4, process=1, told=told, net=FOUR), 2)
        self.assertEqual(told, samples.listed(TOLD))


class Replayed(samples.RaisesCase):

    def test_own_deeds_of_histories(self):
        for net, told in trials.random_histories(NETS, 40, 5):
            for process, row in enumerate(told):
                expected = tuple(local_state(net, told, process, many) for many in range(len(row) + 1))
                self.assertEqual(replayed(net, process, 0, row), expected)
                for many in range(len(row) + 1):
                    self.assertEqual(replayed(net, process, expected[many], row[many:]), expected[many:])

    def test_states_and_losses(self):
        self.assertEqual(replayed(FOUR, 1, 0, (("take", 15, 2), ("lose", 3, 1), ("act", 17), ("lose", 2, 0))), (0, 1, 1, 0, 0))
        self.assertEqual(replayed(FOUR, 1, 2, (("lose", 3, 1), ("act", 18))), (2, 2, 0))
        self.assertEqual(replayed(FOUR, 0, 1, ()), (1,))

    def test_more_than_60_deeds(self):
        self.assertEqual(replayed(STEPPER, 0, 0, (("act", 0),) * 1000), (0,) * 1001)
        around = (("take", 15, 10 ** 400), ("act", 17)) * 50
        self.assertEqual(replayed(FOUR, 1, 0, around), (0, 1) * 50 + (0,))
        self.assert_raises(BadStep, 100, replayed, FOUR, 1, 0, (*around, ("act", 17)))

    def test_messages_are_not_asked_for(self):
        # The same message twice, and such as were never sent: the deeds tell of a run that was.
        self.assertEqual(replayed(FOUR, 1, 0, (("take", 9, 7), ("act", 17), ("take", 9, 7), ("lose", 2, 9), ("lose", 2, 9))), (0, 1, 0, 1, 1, 1))

    def test_deeds_of_others(self):
        self.assert_raises(BadStep, 1, replayed, FOUR, 1, 0, (("take", 15, 2), ("act", 6)))
        self.assert_raises(BadStep, 0, replayed, FOUR, 0, 0, (("lose", 3, 0),))
        self.assert_raises(BadStep, 0, replayed, FOUR, 0, 0, (("take", 15, 0),))
        self.assertEqual(replayed(FOUR, 0, 0, (("act", 6),)), (0, 0))

    def test_rules_that_do_not_begin_in_the_state(self):
        self.assert_raises(BadStep, 1, replayed, FOUR, 0, 0, (("act", 8), ("act", 6)))
        self.assert_raises(BadStep, 0, replayed, FOUR, 1, 1, (("take", 15, 0),))
        self.assert_raises(BadStep, 2, replayed, FOUR, 1, 0, (("take", 15, 0), ("lose", 3, 1), ("take", 15, 2), ("act", 99)))

    def test_what_is_no_deed(self):
        wrong = (("act",), ("act", 99), ("act", -1), ("act", 15), ("take", 6, 0), ("take", 15, -1), ("take", 15), ("lose", 0, 0), ("lose", 9, 0),
                 ("lose", 3, -1), ("do", 0), (), "act 0", None, ("act", None), ("take", 15, "0"), ("begin", 1, 0), *samples.ODD_VALUES)
        for deed in wrong:
            for process in (0, 1):
                self.assert_raises(BadStep, 0, replayed, FOUR, process, 0, (deed,))
            self.assert_raises(BadStep, 1, replayed, FOUR, 1, 0, [["take", 15, 0], deed, ["act", 17]])

    def test_what_is_no_sequence(self):
        for deeds in samples.ODD_VALUES:
            if deeds not in ((), []):
                self.assert_raises(BadStep, 0, replayed, FOUR, 1, 0, deeds)

    def test_lists_and_names(self):
        deeds = [["take", 15, 2], ["act", 17]]
        found = replayed(deeds=deeds, state=0, process=1, net=FOUR)
        self.assertEqual(found, (0, 1, 0))
        self.assertEqual(deeds, [["take", 15, 2], ["act", 17]])


class Resent(samples.RaisesCase):

    def test_what_is_present(self):
        seen = 0
        for net, told in trials.random_histories(NETS, 14, 4):
            sends, gone, tokens = trials.send_events(net, told), trials.gone_events(net, told), trials.tokens_of(net, told)
            for cut in trials.consistent_rows(net, told):
                present = [[] for _ in net.channels]
                for (channel, k), (process, at) in sorted(sends.items()):
                    taker, when = gone.get((channel, k), (0, 99))
                    if at < cut[process] and not when < cut[taker]:
                        present[channel].append((k, tokens[channel, k]))
                expected = tuple(map(tuple, present))
                seen += len(sum(present, []))
                self.assertEqual(resent(net, told, cut), expected)
                self.assertEqual(resent(net, told, cut), world_at(net, told, cut)[2])
        self.assertGreater(seen, 100)

    def test_what_is_wrong(self):
        for told in (*test_lattice.NO_HISTORIES, *samples.ODD_VALUES):
            if not is_history(FOUR, told):
                for cut in ((0, 0), (9, 9), None, samples.DEEP):
                    self.assert_raises(BadStep, 0, resent, FOUR, told, cut)
        for cut in (*test_lattice.NO_CUTS, *test_lattice.NOT_CONSISTENT):
            self.assert_raises(BadCut, 0, resent, FOUR, TOLD, cut)

    def test_lists_and_names(self):
        told, cut = samples.listed(TOLD), [3, 1]
        found = resent(cut=cut, told=told, net=FOUR)
        self.assertEqual(found, ((), (), (), ((0, 5), (1, 6))))
        self.assertTrue(samples.is_tuple_throughout(found))
        self.assertEqual((told, cut), (samples.listed(TOLD), [3, 1]))


class Resumed(samples.RaisesCase):

    def test_the_events_behind_the_cut(self):
        for net, told in trials.random_histories(NETS, 14, 4):
            for cut in trials.consistent_rows(net, told)[::3]:
                run = run_through(net, told, cut)
                self.assertEqual(resumed(net, told, cut, run[sum(cut):]), played(net, run)[sum(cut):])
                self.assertEqual(resumed(net, told, cut, ()), (world_at(net, told, cut),))

    def test_other_deeds(self):
        chance = random.Random(2)
        for net, told in trials.random_histories(NETS, 14, 3):
            for cut in trials.consistent_rows(net, told)[::5]:
                first = run_through(net, told, cut)[:sum(cut)]
                rest = self.random_rest(net, trials.world_behind(net, first), chance)
                self.assertEqual(resumed(net, told, cut, rest), played(net, (*first, *rest))[sum(cut):])

    def random_rest(self, net, world, chance):
        rest = []
        while len(rest) < 9 and trials.possible(net, world):
            rest.append(chance.choice(trials.possible(net, world)))
            world = done(net, world, rest[-1])
        return tuple(rest)

    def test_wrong_deeds(self):
        wrong = (("act", 8), ("act", 99), ("take", 15, 3), ("take", 9, 0), ("lose", 3, 2), None, (), "act", samples.DEEP, ("begin", 0, 0))
        for deed in wrong[1:]:
            self.assert_raises(BadStep, 0, resumed, FOUR, TOLD, (3, 1), (deed,))
            self.assert_raises(BadStep, 2, resumed, FOUR, TOLD, (3, 1), [["act", 8], ["lose", 3, 1], deed, ["act", 17]])
        self.assert_raises(BadStep, 1, resumed, FOUR, TOLD, (3, 1), (wrong[0], wrong[0]))
        for deeds in samples.ODD_VALUES:
            if deeds not in ((), []):
                self.assert_raises(BadStep, 0, resumed, FOUR, TOLD, (3, 1), deeds)

    def test_the_61st_deed(self):
        told = ((("act", 0),) * 60,)
        for many in (0, 1, 30, 59, 60):
            left = 60 - many
            self.assertEqual(len(resumed(STEPPER, told, (many,), (("act", 0),) * left)), left + 1)
            self.assert_raises(BadStep, left, resumed, STEPPER, told, (many,), (("act", 0),) * (left + 1))
            self.assert_raises(BadStep, left, resumed, STEPPER, told, (many,), (("act", 0),) * (left + 9))

    def test_errors_in_their_order(self):
        for told in (*test_lattice.NO_HISTORIES, *samples.ODD_VALUES):
            if not is_history(FOUR, told):
                for cut, deeds in (((0, 0), ()), ((9, 9), ()), (None, None), ((0, 0), (("act", 99),))):
                    self.assert_raises(BadStep, 0, resumed, FOUR, told, cut, deeds)
        for cut in (*test_lattice.NO_CUTS, *test_lattice.NOT_CONSISTENT):
            for deeds in ((), (("act", 99),), None):
                self.assert_raises(BadCut, 0, resumed, FOUR, TOLD, cut, deeds)

    def test_lists_and_names(self):
        told, cut, deeds = samples.listed(TOLD), [3, 1], [["act", 8], ["lose", 3, 1]]
        found = resumed(deeds=deeds, cut=cut, told=told, net=FOUR)
        self.assertEqual(found[-1], ((1, 1), (0, 0, 0, 3), ((), (), (), ((0, 5),))))
        self.assertTrue(samples.is_tuple_throughout(found))
        self.assertEqual((told, cut, deeds), (samples.listed(TOLD), [3, 1], [["act", 8], ["lose", 3, 1]]))


if __name__ == "__main__":
    unittest.main()
