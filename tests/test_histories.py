"""Histories and least runs: points [1], [3], [10] and [11]."""

import random
import reprlib
import unittest

import samples
import trials
from cutweave.errors import BadStep
from cutweave.histories import history, is_history, least_run, same_history
from cutweave.nets import Net
from cutweave.worlds import owner

FOUR = samples.FOUR
RING = samples.RING
PAIR = trials.PAIR
MIXED = trials.MIXED
NETS = (FOUR, RING, PAIR, MIXED)


def small_runs(most, seeds):
    """Random runs of several nets, short enough for all runs with their history to be tried."""
    for seed in range(seeds):
        for net in NETS:
            yield net, trials.random_run(net, random.Random(seed), most)


class HistoryOfARun(samples.RaisesCase):

    def test_deeds_of_each_process_in_their_sequence(self):
        deeds = (("act", 0), ("act", 6), ("take", 9, 0), ("act", 1), ("lose", 3, 0), ("act", 17), ("take", 10, 1))
        self.assertEqual(history(FOUR, deeds), (
            (("act", 0), ("act", 6), ("act", 1)),
            (("take", 9, 0), ("lose", 3, 0), ("act", 17), ("take", 10, 1)),
        ))

    def test_a_process_that_does_nothing(self):
        self.assertEqual(history(FOUR, ()), ((), ()))
        self.assertEqual(history(samples.LONE, []), ((),))
        self.assertEqual(history(RING, (("act", 4), ("act", 0))), ((("act", 0),), (), (("act", 4),)))

    def test_losses_stand_with_the_taker(self):
        deeds = (("act", 4), ("lose", 2, 0), ("act", 0))
        self.assertEqual(history(RING, deeds), ((("lose", 2, 0), ("act", 0)), (), (("act", 4),)))

    def test_random_runs(self):
        for net, deeds in small_runs(40, 10):
            self.assertEqual(history(net, deeds), trials.split(net, deeds))

    def test_lists_and_names(self):
        deeds = [["act", 6], ["lose", 3, 0]]
        told = history(deeds=deeds, net=FOUR)
        self.assertEqual(told, ((("act", 6),), (("lose", 3, 0),)))
        self.assertTrue(samples.is_tuple_throughout(told))
        self.assertEqual(deeds, [["act", 6], ["lose", 3, 0]])
        deeds[0][1] = 0
        self.assertEqual(told, ((("act", 6),), (("lose", 3, 0),)))

    def test_what_is_no_run(self):
        for at in range(4):
            self.assert_raises(BadStep, at, history, FOUR, [("act", 0)] * at + [("act", 17), ("act", 0), None])
        self.assert_raises(BadStep, 60, history, FOUR, [("act", 0)] * 61)
        self.assert_raises(BadStep, 12, history, FOUR, [("act", 0)] * 12 + [None] * 80)
        for wrong in samples.ODD_VALUES:
            if not isinstance(wrong, (list, tuple)) or wrong:
                self.assert_raises(BadStep, 0, history, FOUR, wrong)


class IsHistory(unittest.TestCase):

    def assert_history(self, net, told):
        self.assertIs(is_history(net, told), True)

    def assert_no_history(self, net, told):
        self.assertIs(is_history(net, told), False, reprlib.repr(told))

    def test_histories_of_runs(self):
        for net, deeds in small_runs(40, 10):
            told = trials.split(net, deeds)
            self.assert_history(net, told)
            self.assert_history(net, samples.listed(told))

    def test_the_empty_history(self):
        for net in (*NETS, samples.LONE):
            self.assert_history(net, ((),) * len(net.processes))
            self.assert_history(net, [[] for _ in net.processes])
            self.assert_no_history(net, ())

    def test_by_position_and_by_name(self):
        told = ([["act", 0]], (["take", 9, 0],))
        self.assertIs(is_history(told=told, net=FOUR), True)
        self.assertEqual(told, ([["act", 0]], (["take", 9, 0],)))

    def near(self, net, told, chance):
        """Values near this history: an event left out, twice, moved or exchanged with the next one."""
        process, at = chance.choice(trials.events(told))
        row = told[process]
        other = chance.randrange(len(told))
        place = chance.randrange(len(told[other]) + 1)
        for told_row in ((*row[:at], *row[at + 1:]), (*row[:at], row[at], *row[at:]),
                         (*row[:at], *row[at + 1:at + 2], row[at], *row[at + 2:])):
            yield (*told[:process], told_row, *told[process + 1:])
        moved = [list(line) for line in told]
        event = moved[process].pop(at)
        moved[other].insert(min(place, len(moved[other])), event)
        yield tuple(map(tuple, moved))

    def test_events_left_out_twice_moved_exchanged(self):
        seen = {True: 0, False: 0}
        for net, deeds in small_runs(7, 60):
            told = trials.split(net, deeds)
            for value in self.near(net, told, random.Random(repr(told))):
                expected = all(owner(net, deed) == process for process, row in enumerate(value) for deed in row)
                expected = expected and bool(trials.runs_with(net, value, 1))
                self.assertIs(is_history(net, value), expected, value)
                seen[expected] += 1
        self.assertGreater(min(seen.values()), 100)

    def test_moved_to_another_process(self):
        self.assert_history(FOUR, ((("act", 4),), (("lose", 2, 0),)))
        self.assert_no_history(FOUR, ((("act", 4), ("lose", 2, 0)), ()))
        self.assert_no_history(FOUR, ((), (("act", 4),)))

    def test_a_process_less_or_more(self):
        for net, deeds in small_runs(7, 5):
            told = trials.split(net, deeds)
            self.assert_no_history(net, told[:-1])
            self.assert_no_history(net, told[1:])
            self.assert_no_history(net, (*told, ()))
            self.assert_no_history(net, ((), *told))

    def test_rows_that_wait_for_one_another(self):
        self.assert_no_history(PAIR, ((("take", 1, 0), ("act", 0)), (("take", 4, 0), ("act", 3))))
        self.assert_no_history(PAIR, ((("take", 1, 0), ("act", 0)), (("lose", 0, 0), ("act", 3))))
        self.assert_no_history(PAIR, ((("lose", 1, 0), ("act", 0)), (("take", 4, 0), ("act", 3))))
        self.assert_history(PAIR, ((("act", 0), ("take", 1, 0)), (("take", 4, 0), ("act", 3))))
        self.assert_history(PAIR, ((("act", 0), ("take", 1, 0)), (("act", 3), ("take", 4, 0))))
        circle = Net((("a", 1), ("b", 1), ("c", 1)), (("ab", 0, 1, "loose"), ("bc", 1, 2, "order"), ("ca", 2, 0, "loose")), (
            (0, 0, ("send", 0, 0), 0), (0, 0, ("take", 2, 0), 0), (1, 0, ("send", 1, 0), 0), (1, 0, ("take", 0, 0), 0),
            (2, 0, ("send", 2, 0), 0), (2, 0, ("take", 1, 0), 0)))
        waits = ((("take", 1, 0), ("act", 0)), (("take", 3, 0), ("act", 2)), (("take", 5, 0), ("act", 4)))
        self.assert_no_history(circle, waits)
        self.assert_history(circle, (waits[0][::-1], *waits[1:]))

    def test_messages_that_are_never_sent(self):
        for taken in (("take", 9, 0), ("take", 11, 0), ("take", 15, 0), ("lose", 2, 0), ("lose", 3, 0)):
            self.assert_no_history(FOUR, ((), (taken,)))
        self.assert_no_history(FOUR, ((("act", 2),), (("take", 11, 1),)))
        self.assert_no_history(FOUR, ((("act", 2),), (("take", 11, 10 ** 400),)))
        self.assert_no_history(FOUR, ((("act", 2),), (("take", 12, 0),)))

    def test_messages_that_are_gone(self):
        self.assert_no_history(FOUR, ((("act", 7),), (("lose", 3, 0), ("lose", 3, 0))))
        self.assert_no_history(FOUR, ((("act", 6),), (("lose", 3, 0), ("take", 15, 0))))

    def test_takes_behind_others(self):
        for order, loose in ((0, 2), (4, 6)):
            take_order, take_loose = (9, 11) if order == 0 else (13, 15)
            self.assert_no_history(FOUR, ((("act", order),) * 2, (("take", take_order, 1),)))
            self.assert_history(FOUR, ((("act", loose),) * 2, (("take", take_loose, 1),)))
            self.assert_no_history(FOUR, ((("act", order),) * 2, (("take", take_order, 1), ("act", 17), ("take", take_order, 0))))
            self.assert_history(FOUR, ((("act", loose),) * 2, (("take", take_loose, 1), ("act", 17), ("take", take_loose, 0))))

    def test_losses_that_make_a_later_message_the_first(self):
        self.assert_history(FOUR, ((("act", 4), ("act", 5)), (("lose", 2, 0), ("take", 14, 1))))
        self.assert_no_history(FOUR, ((("act", 4), ("act", 5)), (("take", 14, 1), ("lose", 2, 0))))
        self.assert_no_history(FOUR, ((("act", 4), ("act", 5)), (("lose", 2, 1), ("take", 13, 0))))
        self.assert_no_history(FOUR, ((("act", 4), ("act", 5)), (("take", 14, 1),)))
        self.assert_history(FOUR, ((("act", 4), ("act", 5)), (("lose", 2, 0), ("lose", 2, 1))))
        self.assert_history(FOUR, ((("act", 6), ("act", 7)), (("lose", 3, 1), ("take", 15, 0))))

    def test_rules_of_another_state(self):
        self.assert_no_history(FOUR, ((("act", 8), ("act", 0)), ()))
        self.assert_no_history(FOUR, ((), (("act", 17),)))
        self.assert_no_history(FOUR, ((("act", 0), ("act", 0)), (("take", 9, 0), ("take", 9, 1))))

    def test_just_60_events_and_61(self):
        takes = (("take", 9, 0), ("act", 17), ("take", 9, 1), ("act", 17), ("take", 9, 2))
        self.assert_history(FOUR, ((("act", 0),) * 60, ()))
        self.assert_no_history(FOUR, ((("act", 0),) * 61, ()))
        self.assert_history(FOUR, ((("act", 0),) * 55, takes))
        self.assert_no_history(FOUR, ((("act", 0),) * 56, takes))
        self.assert_no_history(FOUR, ([("act", 0)] * 10 ** 6, ()))

    def test_values_that_are_none(self):
        for value in samples.ODD_VALUES:
            for net in (FOUR, RING):
                others = ((),) * (len(net.processes) - 1)
                self.assert_no_history(net, value)
                self.assert_no_history(net, ((value,), *others))
                self.assert_no_history(net, (*others, [("act", 0), value]))
                if not isinstance(value, (list, tuple)) or value:
                    self.assert_no_history(net, (value, *others))
                    self.assert_no_history(net, (*others, value))


class SameHistory(samples.RaisesCase):

    def test_exchanged_neighbours(self):
        deeds = (("act", 0), ("act", 2), ("take", 9, 0), ("act", 1))
        self.assertIs(same_history(FOUR, deeds, deeds), True)
        self.assertIs(same_history(FOUR, deeds, (("act", 0), ("act", 2), ("act", 1), ("take", 9, 0))), True)
        self.assertIs(same_history(FOUR, deeds, [["act", 0], ["take", 9, 0], ["act", 2], ["act", 1]]), True)

    def test_other_runs(self):
        deeds = (("act", 0), ("act", 2), ("take", 9, 0))
        for others in ((("act", 2), ("act", 0), ("take", 9, 0)), (("act", 0), ("act", 2), ("take", 11, 0)), deeds[:2],
                       (*deeds, ("act", 17)), (*deeds, ("act", 0)), ()):
            self.assertIs(same_history(FOUR, deeds, others), False)
            self.assertIs(same_history(FOUR, others, deeds), False)
        self.assertIs(same_history(FOUR, (), []), True)

    def test_random_runs(self):
        for net, deeds in small_runs(5, 12):
            for others in trials.exchanged(net, deeds):
                self.assertIs(same_history(net, deeds, others), True)
            for seed in range(5):
                others = trials.random_run(net, random.Random(seed), 5)
                self.assertIs(same_history(net, deeds, others), trials.split(net, deeds) == trials.split(net, others))

    def test_errors_of_the_first_then_of_the_second(self):
        right = (("act", 0), ("act", 0), ("take", 9, 0))
        for at in range(3):
            wrong = (*right[:at], ("act", 17), *right[at:])
            self.assert_raises(BadStep, at, same_history, FOUR, wrong, right)
            self.assert_raises(BadStep, at, same_history, FOUR, right, wrong)
            self.assert_raises(BadStep, at, same_history, FOUR, wrong, None)
            self.assert_raises(BadStep, at, same_history, FOUR, wrong, [("act", 0)] * 61)
        self.assert_raises(BadStep, 60, same_history, FOUR, [("act", 0)] * 61, None)
        self.assert_raises(BadStep, 0, same_history, FOUR, right, None)
        self.assert_raises(BadStep, 0, same_history, FOUR, "", right)

    def test_lists_and_names(self):
        deeds, others = [["act", 0]], [("act", 0)]
        self.assertIs(same_history(others=others, deeds=deeds, net=FOUR), True)
        self.assertEqual((deeds, others), ([["act", 0]], [("act", 0)]))


class LeastRun(samples.RaisesCase):

    def by_processes(self, net, run):
        return [owner(net, deed) for deed in run]

    def test_the_least_of_all_runs(self):
        for net, deeds in small_runs(8, 25):
            told = trials.split(net, deeds)
            run = min(trials.runs_with(net, told), key=lambda run: self.by_processes(net, run))
            self.assertEqual(least_run(net, told), run)
            self.assertEqual(least_run(net, samples.listed(told)), run)

    def test_its_history_is_the_one_handed_in(self):
        for net, deeds in small_runs(60, 8):
            told = trials.split(net, deeds)
            self.assertEqual(history(net, least_run(net, told)), told)

    def test_a_greater_process_goes_first_where_the_lesser_waits(self):
        told = ((("take", 1, 0), ("act", 0), ("act", 2)), (("act", 5), ("act", 3), ("act", 5), ("take", 4, 0)))
        self.assertEqual(least_run(PAIR, told), (("act", 5), ("act", 3), ("take", 1, 0), ("act", 0), ("act", 2), ("act", 5),
                                                 ("take", 4, 0)))

    def test_the_empty_one(self):
        self.assertEqual(least_run(FOUR, ((), ())), ())
        self.assertEqual(least_run(samples.LONE, [[]]), ())

    def test_lists_and_names(self):
        told = [[["act", 0]], [["take", 9, 0]]]
        run = least_run(told=told, net=FOUR)
        self.assertEqual(run, (("act", 0), ("take", 9, 0)))
        self.assertTrue(samples.is_tuple_throughout(run))
        self.assertEqual(told, [[["act", 0]], [["take", 9, 0]]])
        told[0][0][1] = 1
        self.assertEqual(run, (("act", 0), ("take", 9, 0)))

    def test_what_is_no_history(self):
        for told in ((), ((),), ((), (), ()), ((), (("take", 9, 0),)), ((("act", 0),) * 61, ()), ((("act", 99),), ()),
                     ((("act", 8), ("act", 8)), ()), *samples.ODD_VALUES):
            self.assert_raises(BadStep, 0, least_run, FOUR, told)


class Exchanges(unittest.TestCase):

    def test_runs_of_one_history_are_those_that_exchanges_lead_to(self):
        for net, deeds in small_runs(6, 10):
            reached, waiting = {deeds}, [deeds]
            while waiting:
                for others in trials.exchanged(net, waiting.pop()):
                    self.assertEqual(trials.world_behind(net, others), trials.world_behind(net, deeds))
                    if others not in reached:
                        reached.add(others)
                        waiting.append(others)
            self.assertEqual(reached, set(trials.runs_with(net, history(net, deeds))))


if __name__ == "__main__":
    unittest.main()
