"""Cuts: points [1], [13] and [14]."""

import random
import unittest

import samples
import trials
from cutweave.cuts import is_cut, run_through, world_at
from cutweave.errors import BadCut, BadStep
from cutweave.histories import history, least_run
from cutweave.runs import played
from cutweave.worlds import owner

FOUR = samples.FOUR
RING = samples.RING
NETS = (FOUR, RING, trials.PAIR, trials.MIXED)
# Messages 0 to 3 on the loose lossy channel: 2 is taken, 1 is lost, 3 is taken.
RUN = (("act", 6), ("act", 7), ("act", 6), ("take", 15, 2), ("act", 17), ("lose", 3, 1), ("act", 7), ("take", 16, 3))
TOLD = history(FOUR, RUN)
NO_HISTORIES = ((), ((),), ((), (), ()), ((), (("take", 9, 0),)), ((("act", 0),) * 61, ()), ((("act", 99),), ()))
NO_CUTS = ((), (0,), (0, 0, 0), (5, 0), (0, 5), (4, 5), (-1, 0), (0, -1), (10 ** 400, 0), (-10 ** 400, 0), (True, 0), (0, False),
           ("0", 0), (0, "0"), (None, None), (0, None), ((0,), 0), ((0, 0),), "00", [0], [0, 0, 0])
# Cuts of TOLD in which a message is taken or lost that is not sent in them.
NOT_CONSISTENT = ((0, 1), (2, 1), (2, 4), (3, 4), [0, 4])


def random_histories(most, seeds):
    for seed in range(seeds):
        for net in NETS:
            yield net, history(net, trials.random_run(net, random.Random(seed), most))


def is_in_order(net, run, cut):
    """Whether the deeds in the cut stand ahead of all others in the run."""
    return trials.split(net, run[:sum(cut)]) == tuple(row[:many] for row, many in zip(trials.split(net, run), cut))


class IsCut(samples.RaisesCase):

    def test_all_rows_by_trial(self):
        seen = 0
        for net, told in random_histories(12, 8):
            consistent = trials.consistent_rows(net, told)
            for cut in trials.all_rows(told):
                self.assertIs(is_cut(net, told, cut), cut in consistent)
                self.assertIs(is_cut(net, told, list(cut)), cut in consistent)
                seen += cut not in consistent
        self.assertGreater(seen, 50)

    def test_the_empty_and_the_whole_cut(self):
        for net, told in random_histories(60, 4):
            self.assertIs(is_cut(net, told, (0,) * len(told)), True)
            self.assertIs(is_cut(net, told, tuple(map(len, told))), True)
        self.assertIs(is_cut(samples.LONE, ((),), (0,)), True)
        self.assertIs(is_cut(samples.LONE, ((),), (1,)), False)

    def test_a_cut_is_consistent_just_if_some_run_goes_through_it(self):
        for net, told in random_histories(7, 6):
            runs = trials.runs_with(net, told)
            for cut in trials.all_rows(told):
                self.assertIs(is_cut(net, told, cut), any(is_in_order(net, run, cut) for run in runs))

    def test_what_is_ahead_by_way_of_a_third_process(self):
        told = history(RING, (("act", 0), ("take", 1, 0), ("act", 2), ("lose", 1, 0), ("act", 4), ("take", 5, 0)))
        self.assertIs(is_cut(RING, told, (1, 2, 2)), True)
        self.assertIs(is_cut(RING, told, (0, 2, 2)), False)
        self.assertIs(is_cut(RING, told, (0, 0, 1)), False)

    def test_what_is_not_consistent(self):
        for cut in NOT_CONSISTENT:
            self.assertIs(is_cut(FOUR, TOLD, cut), False)

    def test_what_is_no_cut(self):
        for cut in NO_CUTS:
            self.assertIs(is_cut(FOUR, TOLD, cut), False)
        for cut in samples.ODD_VALUES:
            self.assertIs(is_cut(FOUR, TOLD, cut), cut == (0, 0))
            self.assertIs(is_cut(FOUR, TOLD, (cut, 0)), type(cut) is int and 0 <= cut <= 4)

    def test_what_is_no_history(self):
        for told in (*NO_HISTORIES, *samples.ODD_VALUES):
            for cut in ((0, 0), (0, 1), (), None, "", samples.DEEP):
                self.assert_raises(BadStep, 0, is_cut, FOUR, told, cut)

    def test_lists_and_names(self):
        told, cut = samples.listed(TOLD), [3, 1]
        self.assertIs(is_cut(cut=cut, told=told, net=FOUR), True)
        self.assertEqual((told, cut), (samples.listed(TOLD), [3, 1]))


class CutErrors(samples.RaisesCase):

    def test_what_is_no_consistent_cut(self):
        for function in (world_at, run_through):
            for cut in (*NO_CUTS, *NOT_CONSISTENT, *[value for value in samples.ODD_VALUES if value != (0, 0)]):
                self.assert_raises(BadCut, 0, function, FOUR, TOLD, cut)

    def test_what_is_no_history_comes_first(self):
        for function in (world_at, run_through):
            for told in (*NO_HISTORIES, *samples.ODD_VALUES):
                for cut in ((0, 0), (0, 1), (), None, "", samples.DEEP):
                    self.assert_raises(BadStep, 0, function, FOUR, told, cut)


class WorldAt(samples.RaisesCase):

    def test_against_the_deeds_done_one_behind_the_other(self):
        for net, told in random_histories(12, 8):
            for cut in trials.consistent_rows(net, told):
                run = trials.runs_with(net, [row[:many] for row, many in zip(told, cut)], 1)[0]
                self.assertEqual(world_at(net, told, cut), trials.world_behind(net, run))
                self.assertEqual(world_at(net, told, list(cut)), world_at(net, told, cut))

    def test_present_is_what_is_sent_and_not_gone_in_the_cut(self):
        for net, told in random_histories(15, 5):
            sends = trials.send_events(net, told)
            for cut in trials.consistent_rows(net, told):
                inside = [deed for row, many in zip(told, cut) for deed in row[:many]]
                gone = [trials.message(net, deed) for deed in inside]
                left = sorted(name for name, (process, at) in sends.items() if at < cut[process] and name not in gone)
                present = world_at(net, told, cut)[2]
                self.assertEqual([(channel, k) for channel, row in enumerate(present) for k, _ in row], left)

    def test_taken_out_of_their_sequence_and_lost(self):
        self.assertEqual(world_at(FOUR, TOLD, (3, 1)), ((0, 1), (0, 0, 0, 3), ((), (), (), ((0, 5), (1, 6)))))
        self.assertEqual(world_at(FOUR, TOLD, (4, 3)), ((0, 0), (0, 0, 0, 4), ((), (), (), ((0, 5), (3, 6)))))
        self.assertEqual(world_at(FOUR, TOLD, (4, 4)), ((0, 2), (0, 0, 0, 4), ((), (), (), ((0, 5),))))
        self.assertEqual(world_at(FOUR, TOLD, (2, 0)), ((0, 0), (0, 0, 0, 2), ((), (), (), ((0, 5), (1, 6)))))

    def test_the_empty_and_the_whole_cut(self):
        for net, told in random_histories(40, 4):
            run = least_run(net, told)
            self.assertEqual(world_at(net, told, (0,) * len(told)), played(net, ())[0])
            self.assertEqual(world_at(net, told, tuple(map(len, told))), played(net, run)[-1])

    def test_lists_and_names(self):
        told, cut = samples.listed(TOLD), [3, 1]
        world = world_at(cut=cut, told=told, net=FOUR)
        self.assertEqual(world, world_at(FOUR, TOLD, (3, 1)))
        self.assertTrue(samples.is_tuple_throughout(world))
        self.assertEqual((told, cut), (samples.listed(TOLD), [3, 1]))


class RunThrough(samples.RaisesCase):

    def by_processes(self, net, run):
        return [owner(net, deed) for deed in run]

    def test_the_least_of_the_runs_through_the_cut(self):
        for net, told in random_histories(7, 6):
            runs = trials.runs_with(net, told)
            for cut in trials.consistent_rows(net, told):
                through = [run for run in runs if is_in_order(net, run, cut)]
                expected = min(through, key=lambda run: self.by_processes(net, run))
                self.assertEqual(run_through(net, told, cut), expected)
                self.assertEqual(run_through(net, told, list(cut)), expected)

    def test_first_the_least_run_of_the_cut(self):
        for net, told in random_histories(25, 5):
            for cut in trials.consistent_rows(net, told)[::7]:
                run, many = run_through(net, told, cut), sum(cut)
                inside = tuple(row[:many] for row, many in zip(told, cut))
                self.assertEqual(run[:many], least_run(net, inside))
                self.assertEqual(len(run), sum(map(len, told)))
                self.assertEqual(history(net, run), told)
                self.assertEqual(played(net, run)[many], world_at(net, told, cut))

    def test_the_empty_and_the_whole_cut(self):
        for net, told in random_histories(40, 4):
            self.assertEqual(run_through(net, told, (0,) * len(told)), least_run(net, told))
            self.assertEqual(run_through(net, told, tuple(map(len, told))), least_run(net, told))
        self.assertEqual(run_through(samples.LONE, ((),), (0,)), ())

    def test_another_run_than_the_least_one(self):
        self.assertEqual(run_through(FOUR, TOLD, (3, 3)), RUN)
        self.assertEqual(least_run(FOUR, TOLD)[:4], TOLD[0])

    def test_lists_and_names(self):
        told, cut = samples.listed(TOLD), [3, 3]
        run = run_through(cut=cut, told=told, net=FOUR)
        self.assertEqual(run, RUN)
        self.assertTrue(samples.is_tuple_throughout(run))
        self.assertEqual((told, cut), (samples.listed(TOLD), [3, 3]))
        told[0][0][1] = 7
        self.assertEqual(run, RUN)


if __name__ == "__main__":
    unittest.main()
