"""Rollback: points [1] and [31] to [33]."""

import itertools
import random
import unittest

import samples
import test_lattice
import trials
from cutweave.errors import BadStep, BadValue
from cutweave.histories import history, is_history
from cutweave.rollback import domino, line, logged_line

FOUR = samples.FOUR
PAIR = trials.PAIR
NETS = (FOUR, samples.RING, PAIR, trials.MIXED)
SEND_C, TAKE_D, DO_P, SEND_D, TAKE_C, DO_Q = [("act", 0), ("take", 1), ("act", 2), ("act", 3), ("take", 4), ("act", 5)]
# p sends to q and q answers, five times.
ANSWERS = tuple(deed for k in range(5) for deed in (SEND_C, (*TAKE_C, k), SEND_D, (*TAKE_D, k)))
TOLD = history(PAIR, ANSWERS)
# Checkpoints behind each take: each one stands on a send behind the other's checkpoint, so that all fall.
BETWEEN = ((0, 2, 4, 6, 8), (0, 1, 3, 5, 7, 9))
# Checkpoints behind each send: of these two can stand beside each other.
BESIDE = ((0, 1, 3, 5, 7, 9), (0, 2, 4, 6, 8))

NO_CHECKPOINTS = ((), ((0,),), ((0,), (0,), (0,)), ((), (0,)), ((0,), ()), ((1,), (0,)), ((0,), (2, 3)), ((0, 2, 1), (0,)),
                  ((0, 1, 1), (0,)), ((0, 0), (0,)), ((0, 11), (0,)), ((0,), (0, 11)), ((0, -1), (0,)), ((-1, 0), (0,)),
                  ((0,), (0, 10 ** 400)), ((0, True), (0,)), ((False, 1), (0,)), ((0,), (0, "1")), ((0,), "0"), ("0", "0"), ((0,), 0),
                  ((0,), None), ((0,), (None,)), ((0,), ((0,),)), ((0,), (0, (1,))), [[0], [0, []]], {}, "00", ((0, None), (0,)))
NO_FAILED = ((0, 0), (1, 0, 1), (2,), (0, 2), (-1,), (0, -1), (10 ** 400,), ("p",), ("0",), (None,), ((0,),), (0, (1,)), "0", "", "p", 0,
             1, None, (True,), (False,), [[]], [0, [1]], -1, (1, 0, 0))


def brute_line(net, told, allowed):
    return trials.greatest([cut for cut in itertools.product(*allowed) if cut in trials.consistent_rows(net, told)])


def allowed_rows(told, checkpoints, failed):
    return [sorted({*row, *((len(deeds),) if process not in failed else ())})
            for process, (row, deeds) in enumerate(zip(checkpoints, told))]


def cases(most, seeds, several, nets=NETS):
    """Nets, histories, and with each some checkpoints and failed processes."""
    chance = random.Random(most)
    for net, told in trials.random_histories(nets, most, seeds):
        for _ in range(several):
            yield net, told, trials.random_checkpoints(told, chance), trials.random_failed(told, chance)


def random_logs(told, checkpoints, chance):
    return tuple(chance.randrange(row[-1], len(deeds) + 1) for row, deeds in zip(checkpoints, told))


def is_nowhere_less(one, other):
    return all(here >= there for here, there in zip(one, other))


class Line(samples.RaisesCase):

    def test_all_vectors_of_allowed_numbers(self):
        found = []
        for net, told, checkpoints, failed in cases(14, 6, 6):
            found.append((line(net, told, checkpoints, failed), tuple(map(len, told))))
            self.assertEqual(found[-1][0], brute_line(net, told, allowed_rows(told, checkpoints, failed)))
        self.assertGreater(len([1 for cut, whole in found if 0 < sum(cut) < sum(whole)]), 30)

    def test_none_failed(self):
        for net, told, checkpoints, _ in cases(30, 2, 2):
            self.assertEqual(line(net, told, checkpoints, ()), tuple(map(len, told)))

    def test_one_some_and_all_failed(self):
        self.assertEqual(line(PAIR, TOLD, BESIDE, ()), (10, 10))
        self.assertEqual(line(PAIR, TOLD, BESIDE, (0,)), (9, 10))
        self.assertEqual(line(PAIR, TOLD, BESIDE, (1,)), (9, 8))
        self.assertEqual(line(PAIR, TOLD, BESIDE, (0, 1)), (9, 8))
        self.assertEqual(line(PAIR, TOLD, BESIDE, (1, 0)), (9, 8))

    def test_back_to_the_beginning(self):
        self.assertEqual(line(PAIR, TOLD, BETWEEN, ()), (10, 10))
        for failed in ((0,), (1,), (0, 1)):
            self.assertEqual(line(PAIR, TOLD, BETWEEN, failed), (0, 0))

    def test_checkpoints_at_0_alone_and_at_all_numbers(self):
        for net, told in trials.random_histories(NETS, 20, 4):
            whole = tuple(map(len, told))
            everyone = tuple(range(len(told)))
            self.assertEqual(line(net, told, ((0,),) * len(told), everyone), (0,) * len(told))
            self.assertEqual(line(net, told, tuple(tuple(range(many + 1)) for many in whole), everyone), whole)

    def test_losses_count_as_takes(self):
        told = history(FOUR, (("act", 6), ("act", 6), ("lose", 3, 1), ("take", 15, 0)))
        self.assertEqual(line(FOUR, told, ((0, 1), (0,)), (0,)), (1, 0))
        self.assertEqual(line(FOUR, told, ((0, 2), (0,)), (0,)), (2, 2))
        self.assertEqual(line(FOUR, told, ((0, 1), (0, 1)), (0,)), (1, 0))

    def test_processes_without_events(self):
        self.assertEqual(line(samples.LONE, ((),), ((0,),), (0,)), (0,))
        self.assertEqual(line(samples.LONE, ((),), ((0,),), ()), (0,))
        self.assertEqual(line(PAIR, ((), (DO_Q,)), ((0,), (0,)), (0,)), (0, 1))
        self.assertEqual(line(PAIR, ((), (DO_Q,)), ((0,), (0,)), (1,)), (0, 0))

    def test_the_joined_of_two_such_cuts_is_one(self):
        for net, told, checkpoints, failed in cases(10, 3, 3):
            allowed = allowed_rows(told, checkpoints, failed)
            cuts = [cut for cut in itertools.product(*allowed) if cut in trials.consistent_rows(net, told)]
            for one, other in itertools.product(cuts, repeat=2):
                self.assertIn(tuple(map(max, zip(one, other))), cuts)

    def test_lists_and_names(self):
        told, checkpoints, failed = samples.listed(TOLD), samples.listed(BESIDE), [1, 0]
        found = line(failed=failed, checkpoints=checkpoints, told=told, net=PAIR)
        self.assertEqual(found, (9, 8))
        self.assertTrue(samples.is_tuple_throughout(found))
        self.assertEqual((told, checkpoints, failed), (samples.listed(TOLD), samples.listed(BESIDE), [1, 0]))


class Domino(samples.RaisesCase):

    def check(self, net, told, checkpoints, failed, steps):
        """Each going back by itself, and the line behind the last one."""
        numbers = list(map(len, told))
        allowed = allowed_rows(told, checkpoints, failed)
        sends, gone = trials.send_events(net, told), trials.gone_events(net, told)
        waiting = [process for process in sorted(failed) if checkpoints[process][-1] < len(told[process])]
        for process, elder, newer, channel, k in steps:
            self.assertEqual(elder, numbers[process])
            self.assertLess(newer, elder)
            if waiting:
                self.assertEqual((process, newer, channel, k), (waiting[0], checkpoints[waiting[0]][-1], None, None))
                waiting.pop(0)
            else:
                orphans = self.orphans(sends, gone, numbers)
                self.assertEqual((process, channel, k), min(orphans))
                self.assertEqual(newer, max(many for many in allowed[process] if many <= gone[channel, k][1]))
            numbers[process] = newer
        self.assertEqual(waiting, [])
        self.assertEqual(self.orphans(sends, gone, numbers), [])
        self.assertEqual(tuple(numbers), line(net, told, checkpoints, failed))

    def orphans(self, sends, gone, numbers):
        return [(process, *name) for name, (process, at) in gone.items()
                if at < numbers[process] and sends[name][1] >= numbers[sends[name][0]]]

    def test_each_going_back_and_the_line(self):
        lengths = []
        for net, told, checkpoints, failed in (*cases(14, 8, 6), *cases(50, 6, 6)):
            steps = domino(net, told, checkpoints, failed)
            lengths.append(len(steps))
            self.check(net, told, checkpoints, failed, steps)
        self.assertGreater(len([many for many in lengths if many > 3]), 20)

    def test_step_by_step(self):
        told = history(PAIR, (SEND_C, *(deed for k in range(2) for deed in ((*TAKE_C, k), SEND_D, (*TAKE_D, k), SEND_C))))
        self.assertEqual(told, ((SEND_C, (*TAKE_D, 0), SEND_C, (*TAKE_D, 1), SEND_C), ((*TAKE_C, 0), SEND_D, (*TAKE_C, 1), SEND_D)))
        self.assertEqual(domino(PAIR, told, ((0, 2, 4), (0, 1, 3)), (0,)), (
            (0, 5, 4, None, None),))
        self.assertEqual(domino(PAIR, told, ((0, 2), (0, 1, 3)), (0,)), (
            (0, 5, 2, None, None), (1, 4, 1, 0, 1), (0, 2, 0, 1, 0), (1, 1, 0, 0, 0)))
        self.assertEqual(domino(PAIR, told, ((0, 2), (0, 1, 3)), (1, 0)), (
            (0, 5, 2, None, None), (1, 4, 3, None, None), (1, 3, 1, 0, 1), (0, 2, 0, 1, 0), (1, 1, 0, 0, 0)))

    def test_nobody_goes_back(self):
        for net, told, checkpoints, _ in cases(20, 2, 2):
            self.assertEqual(domino(net, told, checkpoints, ()), ())
            full = tuple((*row, len(deeds)) if row[-1] < len(deeds) else row for row, deeds in zip(checkpoints, told))
            self.assertEqual(domino(net, told, full, tuple(range(len(told)))[::-1]), ())
        self.assertEqual(domino(samples.LONE, ((),), ((0,),), (0,)), ())

    def test_several_messages_at_once(self):
        # Of the takes that the failure of p leaves alone that of the least channel and message goes first, not the last done.
        told = history(FOUR, (("act", 6), ("act", 6), ("act", 2), ("act", 0), ("take", 15, 1), ("act", 17), ("take", 15, 0), ("act", 17),
                              ("take", 11, 0), ("act", 17), ("take", 9, 0)))
        rows = ((0,), tuple(range(7)))
        self.assertEqual(domino(FOUR, told, rows, (0,)), (
            (0, 4, 0, None, None), (1, 7, 6, 0, 0), (1, 6, 4, 1, 0), (1, 4, 2, 3, 0), (1, 2, 0, 3, 1)))
        self.assertEqual(domino(FOUR, told, ((0, 2), tuple(range(7))), (0,)), (
            (0, 4, 2, None, None), (1, 7, 6, 0, 0), (1, 6, 4, 1, 0)))

    def test_the_least_taker_goes_first(self):
        # b and c both stand on messages of others: b is less, though its message is in the greater channel.
        told = history(trials.MIXED, (("act", 0), ("act", 0), ("take", 4, 0), ("act", 6), ("act", 9), ("take", 8, 0)))
        self.assertEqual(told[1:3], ((("take", 4, 0), ("act", 6)), (("act", 9), ("take", 8, 0))))
        self.assertEqual(domino(trials.MIXED, told, ((0,),) * 4, (0,)), ((0, 2, 0, None, None), (1, 2, 0, 0, 0), (2, 2, 0, 1, 0)))
        self.assertEqual(domino(trials.MIXED, told, ((0,), (0, 1), (0, 1), (0,)), (1, 0)), (
            (0, 2, 0, None, None), (1, 2, 1, None, None), (1, 1, 0, 0, 0), (2, 2, 1, 1, 0)))

    def test_losses(self):
        told = history(FOUR, (("act", 6), ("act", 6), ("lose", 3, 1), ("take", 15, 0)))
        self.assertEqual(domino(FOUR, told, ((0, 1), (0, 1)), (0,)), ((0, 2, 1, None, None), (1, 2, 0, 3, 1)))

    def test_lists_and_names(self):
        told, checkpoints, failed = samples.listed(TOLD), samples.listed(BESIDE), [1]
        found = domino(failed=failed, checkpoints=checkpoints, told=told, net=PAIR)
        self.assertEqual(found, ((1, 10, 8, None, None), (0, 10, 9, 1, 4)))
        self.assertIsInstance(found[0], tuple)
        self.assertEqual((told, checkpoints, failed), (samples.listed(TOLD), samples.listed(BESIDE), [1]))


class Logged(samples.RaisesCase):

    def test_all_vectors_of_allowed_numbers(self):
        chance = random.Random(4)
        others = 0
        for net, told, checkpoints, failed in cases(13, 5, 6):
            logs = random_logs(told, checkpoints, chance)
            allowed = [sorted({*row, *range(kept[-1], log + 1)})
                       for row, kept, log in zip(allowed_rows(told, checkpoints, failed), checkpoints, logs)]
            found = logged_line(net, told, checkpoints, logs, failed)
            others += found != line(net, told, checkpoints, failed)
            self.assertEqual(found, brute_line(net, told, allowed))
        self.assertGreater(others, 20)

    def test_logs_at_the_last_checkpoint(self):
        for net, told, checkpoints, failed in cases(20, 3, 3):
            logs = tuple(row[-1] for row in checkpoints)
            self.assertEqual(logged_line(net, told, checkpoints, logs, failed), line(net, told, checkpoints, failed))

    def test_logs_of_all_events(self):
        for net, told, checkpoints, failed in cases(20, 3, 3):
            whole = tuple(map(len, told))
            self.assertEqual(logged_line(net, told, checkpoints, whole, failed), whole)

    def test_logs_between(self):
        self.assertEqual(logged_line(PAIR, TOLD, ((0,), (0,)), (5, 3), (0, 1)), (3, 3))
        self.assertEqual(logged_line(PAIR, TOLD, ((0,), (0,)), (5, 4), (0, 1)), (5, 4))
        self.assertEqual(logged_line(PAIR, TOLD, ((0,), (0,)), (5, 0), (0,)), (1, 0))
        self.assertEqual(logged_line(PAIR, TOLD, ((0,), (0,)), (0, 5), (1,)), (0, 0))
        # Ahead of the last checkpoint a log gives nothing.
        self.assertEqual(logged_line(PAIR, TOLD, ((0, 6), (0,)), (7, 4), (0, 1)), (0, 0))

    def test_of_those_that_have_not_failed_too(self):
        # q has not failed, but must go back, and can stop within its log.
        told = history(PAIR, (SEND_C, SEND_C, (*TAKE_C, 0), DO_Q, (*TAKE_C, 1)))
        self.assertEqual(line(PAIR, told, ((0, 1), (0,)), (0,)), (1, 0))
        self.assertEqual(logged_line(PAIR, told, ((0, 1), (0,)), (1, 2), (0,)), (1, 2))
        self.assertEqual(logged_line(PAIR, told, ((0, 1), (0,)), (1, 3), (0,)), (1, 2))

    def test_with_more_no_number_becomes_less(self):
        chance = random.Random(8)
        for net, told, checkpoints, failed in cases(30, 4, 5):
            logs = random_logs(told, checkpoints, chance)
            before = logged_line(net, told, checkpoints, logs, failed)
            greater = tuple(chance.randrange(log, len(row) + 1) for log, row in zip(logs, told))
            fewer = tuple(process for process in failed if chance.random() < 0.5)
            more = tuple(tuple(sorted({*row, *(number for number in range(row[-1]) if chance.random() < 0.4)})) for row in checkpoints)
            for change in ((checkpoints, greater, failed), (checkpoints, logs, fewer), (more, logs, failed), (more, greater, fewer)):
                self.assertTrue(is_nowhere_less(logged_line(net, told, *change), before))

    def test_lists_and_names(self):
        told, checkpoints, logs = samples.listed(TOLD), [[0], [0]], [5, 4]
        found = logged_line(failed=[0, 1], logs=logs, checkpoints=checkpoints, told=told, net=PAIR)
        self.assertEqual(found, (5, 4))
        self.assertEqual((told, checkpoints, logs), (samples.listed(TOLD), [[0], [0]], [5, 4]))


class Wrong(samples.RaisesCase):

    def test_what_is_no_history(self):
        for told in (*test_lattice.NO_HISTORIES, *samples.ODD_VALUES):
            if not is_history(FOUR, told):
                for function in (line, domino):
                    self.assert_raises(BadStep, 0, function, FOUR, told, ((0,), (0,)), ())
                    self.assert_raises(BadStep, 0, function, FOUR, told, None, samples.DEEP)
                self.assert_raises(BadStep, 0, logged_line, FOUR, told, ((0,), (0,)), (0, 0), ())
                self.assert_raises(BadStep, 0, logged_line, FOUR, told, None, None, samples.DEEP)

    def test_what_are_no_checkpoints(self):
        for checkpoints in (*NO_CHECKPOINTS, *samples.ODD_VALUES):
            for failed in ((), (0,), (0, 0), None):
                for function in (line, domino):
                    self.assert_raises(BadValue, 2, function, PAIR, TOLD, checkpoints, failed)
                for logs in ((0, 0), None):
                    self.assert_raises(BadValue, 2, logged_line, PAIR, TOLD, checkpoints, logs, failed)
        for row in samples.ODD_VALUES:
            if row != (0,):
                self.assert_raises(BadValue, 2, line, PAIR, TOLD, (row, (0,)), ())
                self.assert_raises(BadValue, 2, line, PAIR, TOLD, ((0,), row), (5,))

    def test_checkpoints_up_to_all_events(self):
        self.assertEqual(line(PAIR, TOLD, ((0, 10), (0, 10)), (0, 1)), (10, 10))
        self.assertEqual(line(PAIR, TOLD, (tuple(range(11)), (0,)), (0,)), (10, 10))

    def test_what_are_no_failed_ones(self):
        odd = [value for value in samples.ODD_VALUES if value not in ((), [], (0,))]
        for failed in (*NO_FAILED, *odd):
            for function in (line, domino):
                self.assert_raises(BadValue, 3, function, PAIR, TOLD, BETWEEN, failed)
            self.assert_raises(BadValue, 4, logged_line, PAIR, TOLD, BETWEEN, (9, 9), failed)
            self.assert_raises(BadValue, 3, logged_line, PAIR, TOLD, BETWEEN, (9, 8), failed)

    def test_what_are_no_logs(self):
        wrong = ((), (9,), (9, 9, 9), (7, 9), (8, 8), (11, 9), (8, 11), (-1, 9), (8, -1), (10 ** 400, 9), ("8", 9), (8, None), (8, True),
                 ((8,), 9), ((8, 9),), "89", None, 8, [8, [9]], *samples.ODD_VALUES)
        for logs in wrong:
            for failed in ((), (0,), None, (0, 0)):
                self.assert_raises(BadValue, 3, logged_line, PAIR, TOLD, BETWEEN, logs, failed)
        self.assertEqual(logged_line(PAIR, TOLD, BETWEEN, (8, 9), ()), (10, 10))
        self.assertEqual(logged_line(PAIR, TOLD, BETWEEN, [10, 10], (0, 1)), (10, 10))


if __name__ == "__main__":
    unittest.main()
