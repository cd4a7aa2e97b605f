"""What can be dropped: points [1] and [35]."""

import random
import unittest

import samples
import test_lattice
import test_rollback
import trials
from cutweave.errors import BadStep, BadValue
from cutweave.garbage import droppable, floor, open_messages
from cutweave.histories import history, is_history
from cutweave.keeping import resent
from cutweave.rollback import line

FOUR = samples.FOUR
PAIR = trials.PAIR
NETS = (FOUR, samples.RING, PAIR, trials.MIXED)
TOLD, BETWEEN, BESIDE = test_rollback.TOLD, test_rollback.BETWEEN, test_rollback.BESIDE


class Garbage(samples.RaisesCase):

    def test_the_floor_is_the_line_if_all_failed(self):
        for net, told, checkpoints, _ in test_rollback.cases(20, 4, 4):
            self.assertEqual(floor(net, told, checkpoints), line(net, told, checkpoints, tuple(range(len(told)))))
        self.assertEqual(floor(PAIR, TOLD, BESIDE), (9, 8))
        self.assertEqual(floor(PAIR, TOLD, BETWEEN), (0, 0))

    def test_the_floor_by_trial(self):
        for net, told, checkpoints, _ in test_rollback.cases(12, 4, 4):
            self.assertEqual(floor(net, told, checkpoints), test_rollback.brute_line(net, told, checkpoints))

    def test_droppable(self):
        self.assertEqual(droppable(PAIR, TOLD, BESIDE), ((0, 1, 3, 5, 7), (0, 2, 4, 6)))
        self.assertEqual(droppable(PAIR, TOLD, BETWEEN), ((), ()))
        self.assertEqual(droppable(PAIR, TOLD, ((0, 10), (0, 10))), ((0,), (0,)))
        self.assertEqual(droppable(samples.LONE, ((),), ((0,),)), ((),))
        for net, told, checkpoints, _ in test_rollback.cases(14, 4, 4):
            least = test_rollback.brute_line(net, told, checkpoints)
            expected = tuple(tuple(number for number in row if number < least[process]) for process, row in enumerate(checkpoints))
            self.assertEqual(droppable(net, told, checkpoints), expected)

    def test_open_messages(self):
        self.assertEqual(open_messages(PAIR, TOLD, BESIDE), (((4, 1),), ((4, 2),)))
        self.assertEqual(open_messages(PAIR, TOLD, BETWEEN)[1], tuple((k, 2) for k in range(5)))
        told = history(FOUR, (("act", 6), ("act", 7), ("act", 6), ("lose", 3, 1), ("take", 15, 0), ("act", 0)))
        self.assertEqual(open_messages(FOUR, told, ((0, 3), (0, 1))), (((0, 5),), (), (), ((0, 5), (2, 5))))
        self.assertEqual(open_messages(FOUR, told, ((0, 3), (0, 2))), (((0, 5),), (), (), ((2, 5),)))
        self.assertEqual(open_messages(FOUR, told, ((0, 1), (0, 2))), (((0, 5),), (), (), ((0, 5), (1, 6), (2, 5))))
        self.assertEqual(open_messages(samples.LONE, ((),), ((0,),)), ())

    def test_open_messages_by_counting(self):
        for net, told, checkpoints, _ in test_rollback.cases(16, 4, 4):
            least = test_rollback.brute_line(net, told, checkpoints)
            gone = {name for name, (process, at) in trials.gone_events(net, told).items() if at < least[process]}
            expected = [[] for _ in net.channels]
            for (channel, k), token in sorted(trials.tokens_of(net, told).items()):
                if (channel, k) not in gone:
                    expected[channel].append((k, token))
            self.assertEqual(open_messages(net, told, checkpoints), tuple(map(tuple, expected)))

    def test_histories_that_go_on(self):
        chance = random.Random(6)
        lower = 0
        for net, _ in trials.random_histories(NETS, 1, 30):
            run = trials.random_run(net, chance, 30)
            many = chance.randrange(len(run) + 1)
            told, later = history(net, run[:many]), history(net, run)
            checkpoints = trials.random_checkpoints(told, chance)
            more = tuple(tuple(sorted({*row, *(number for number in range(row[-1], len(deeds) + 1) if chance.random() < 0.2)}))
                         for row, deeds in zip(checkpoints, later))
            least = floor(net, told, checkpoints)
            dropped = droppable(net, told, checkpoints)
            for _ in range(6):
                failed = trials.random_failed(later, chance)
                cut = line(net, later, more, failed)
                lower += cut != tuple(map(len, later))
                self.assertTrue(test_rollback.is_nowhere_less(cut, least))
                for number, row in zip(cut, dropped):
                    self.assertNotIn(number, row)
                self.check_needed(net, later, told, cut, open_messages(net, told, checkpoints))
        self.assertGreater(lower, 50)

    def check_needed(self, net, later, told, cut, opened):
        """Each message that the line needs is open, or sent later than the history was."""
        sent = trials.send_events(net, told)
        for channel, row in enumerate(resent(net, later, cut)):
            for k, token in row:
                self.assertTrue((k, token) in opened[channel] or (channel, k) not in sent)

    def test_what_is_dropped_changes_no_line(self):
        for net, told, checkpoints, failed in test_rollback.cases(20, 4, 4):
            dropped = droppable(net, told, checkpoints)
            kept = tuple((0, *(number for number in row if number not in gone and number > 0)) for row, gone in zip(checkpoints, dropped))
            self.assertEqual(line(net, told, kept, failed), line(net, told, checkpoints, failed))

    def test_what_is_wrong(self):
        for function in (floor, droppable, open_messages):
            for told in (*test_lattice.NO_HISTORIES, *samples.ODD_VALUES):
                if not is_history(FOUR, told):
                    for checkpoints in (((0,), (0,)), ((1,), (0,)), None, samples.DEEP):
                        self.assert_raises(BadStep, 0, function, FOUR, told, checkpoints)
            for checkpoints in (*test_rollback.NO_CHECKPOINTS, *samples.ODD_VALUES):
                self.assert_raises(BadValue, 2, function, PAIR, TOLD, checkpoints)

    def test_lists_and_names(self):
        told, checkpoints = samples.listed(TOLD), samples.listed(BESIDE)
        for function in (floor, droppable, open_messages):
            found = function(checkpoints=checkpoints, told=told, net=PAIR)
            self.assertEqual(found, function(PAIR, TOLD, BESIDE))
            self.assertTrue(samples.is_tuple_throughout(found))
        self.assertEqual((told, checkpoints), (samples.listed(TOLD), samples.listed(BESIDE)))


if __name__ == "__main__":
    unittest.main()
