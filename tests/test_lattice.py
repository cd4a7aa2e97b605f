"""The lattice of consistent cuts: points [1] and [15] to [17]."""

import itertools
import random
import unittest

import samples
import trials
from cutweave.clocks import clocks
from cutweave.errors import BadCut, BadStep, TooMany
from cutweave.histories import history
from cutweave.lattice import (all_cuts, chain_count, count_cuts, greatest_within, joined, least_over, level, met, parts, primes,
                              steps_down, steps_up)
from cutweave.nets import Net

FOUR = samples.FOUR
RING = samples.RING
NETS = (FOUR, RING, trials.PAIR, trials.MIXED)
TOLD = history(FOUR, (("act", 6), ("act", 7), ("act", 6), ("take", 15, 2), ("act", 17), ("lose", 3, 1), ("act", 7),
                      ("take", 16, 3)))
CUTS = ((0, 0), (1, 0), (2, 0), (3, 0), (3, 1), (4, 0), (3, 2), (4, 1), (3, 3), (4, 2), (4, 3), (4, 4))
NOT_CONSISTENT = ((0, 1), (2, 1), (2, 4), (3, 4), [0, 4])
NO_HISTORIES = ((), ((),), ((), (), ()), ((), (("take", 9, 0),)), ((("act", 0),) * 61, ()), ((("act", 99),), ()))
NO_CUTS = ((), (0,), (0, 0, 0), (5, 0), (0, 5), (-1, 0), (0, -1), (10 ** 400, 0), (True, 0), (0, False), ("0", 0), (0, "0"),
           (None, None), (0, None), ((0,), 0), ((0, 0),), "00", [0], [0, 0, 0],
           *[value for value in samples.ODD_VALUES if value != (0, 0)])

# Processes that do nothing but step, each on its own, up to 5 of them.
FREE = Net([[name, 1] for name in "abcde"], (), [[process, 0, ["do"], 0] for process in range(5)])

# Three such processes, and messages from a to b and from b to c.
LINE = Net([["a", 1], ["b", 1], ["c", 1]], [["ab", 0, 1, "order"], ["bc", 1, 2, "loose"]], [
    [0, 0, ["do"], 0], [1, 0, ["do"], 0], [2, 0, ["do"], 0], [0, 0, ["send", 0, 0], 0], [1, 0, ["take", 0, 0], 0],
    [1, 0, ["send", 1, 0], 0], [2, 0, ["take", 1, 0], 0]])


def free_history(*many):
    """Each process of FREE steps so often."""
    return tuple((("act", process),) * steps for process, steps in enumerate(many))


def line_history(many, sends, takes):
    """Processes of LINE with so many steps; the sends of a and b, and the takes of b and c, stand at these places."""
    rows = [[("act", process)] * steps for process, steps in enumerate(many)]
    rows[0][sends[0]], rows[1][sends[1]] = ("act", 3), ("act", 5)
    rows[1][takes[0]], rows[2][takes[1]] = ("take", 4, 0), ("take", 6, 0)
    return tuple(map(tuple, rows))


JUST_5000 = ((FREE, free_history(9, 19, 24, 0, 0)), (LINE, line_history((14, 17, 19), (0, 0), (9, 3))))
JUST_5001 = (LINE, line_history((14, 18, 17), (0, 0), (15, 12)))
# 5,001 and 5,005 of them, 13 ** 5, and a process that does nothing beside four that do.
MORE = (JUST_5001, (FREE, free_history(4, 6, 10, 12, 0)), (FREE, free_history(12, 12, 12, 12, 12)),
        (FREE, free_history(0, 17, 17, 16, 10)))


def random_histories(most, seeds):
    for seed in range(seeds):
        for net in NETS:
            yield net, history(net, trials.random_run(net, random.Random(seed), most))


def is_within(one, other):
    return all(here <= there for here, there in zip(one, other))


class MetAndJoined(unittest.TestCase):

    def test_place_by_place(self):
        self.assertEqual(met((1, 5, 3), (2, 4, 3)), (1, 4, 3))
        self.assertEqual(joined((1, 5, 3), (2, 4, 3)), (2, 5, 3))
        for one, other in itertools.product(itertools.product(range(3), repeat=2), repeat=2):
            for kind in (tuple, list):
                self.assertEqual(met(kind(one), other), (min(one[0], other[0]), min(one[1], other[1])))
                self.assertEqual(joined(one, kind(other)), (max(one[0], other[0]), max(one[1], other[1])))

    def test_of_lists_and_by_name(self):
        one, other = [0, 4], [3, 2]
        self.assertEqual(met(other=other, one=one), (0, 2))
        self.assertEqual(joined(other=other, one=one), (3, 4))
        self.assertEqual((one, other), ([0, 4], [3, 2]))
        self.assertEqual((met([7], [9]), joined((7,), [9])), ((7,), (9,)))

    def test_of_consistent_cuts_they_are_consistent(self):
        for net, told in random_histories(12, 4):
            cuts = trials.consistent_rows(net, told)
            for one, other in itertools.product(cuts, repeat=2):
                self.assertIn(met(one, other), cuts)
                self.assertIn(joined(one, other), cuts)


class Bounds(samples.RaisesCase):

    def test_against_all_consistent_cuts(self):
        for net, told in random_histories(12, 8):
            consistent = trials.consistent_rows(net, told)
            for bound in trials.all_rows(told):
                over = [cut for cut in consistent if is_within(bound, cut)]
                within = [cut for cut in consistent if is_within(cut, bound)]
                least, greatest = least_over(net, told, bound), greatest_within(net, told, list(bound))
                self.assertIn(least, over)
                self.assertTrue(all(is_within(least, cut) for cut in over))
                self.assertIn(greatest, within)
                self.assertTrue(all(is_within(cut, greatest) for cut in within))
                self.assertEqual(least == bound, bound in consistent)
                self.assertEqual(greatest == bound, bound in consistent)

    def test_bounds_that_are_not_consistent(self):
        self.assertEqual(least_over(FOUR, TOLD, (0, 1)), (3, 1))
        self.assertEqual(least_over(FOUR, TOLD, (2, 4)), (4, 4))
        self.assertEqual(greatest_within(FOUR, TOLD, (2, 4)), (2, 0))
        self.assertEqual(greatest_within(FOUR, TOLD, (3, 4)), (3, 3))

    def test_the_empty_and_the_whole_bound(self):
        for net, told in random_histories(50, 4):
            for bound in ((0,) * len(told), tuple(map(len, told))):
                self.assertEqual(least_over(net, told, bound), bound)
                self.assertEqual(greatest_within(net, told, bound), bound)

    def test_by_way_of_a_third_process(self):
        told = history(RING, (("act", 0), ("take", 1, 0), ("act", 2), ("lose", 1, 0), ("act", 4), ("take", 5, 0)))
        self.assertEqual(least_over(RING, told, (0, 0, 1)), (1, 2, 1))
        self.assertEqual(least_over(RING, told, [2, 0, 0]), (2, 2, 2))
        self.assertEqual(greatest_within(RING, told, (2, 1, 2)), (1, 1, 0))
        self.assertEqual(greatest_within(RING, told, [0, 2, 2]), (0, 0, 0))

    def test_lists_and_names(self):
        told, bound = samples.listed(TOLD), [0, 1]
        self.assertEqual(least_over(bound=bound, told=told, net=FOUR), (3, 1))
        self.assertEqual(greatest_within(bound=bound, told=told, net=FOUR), (0, 0))
        self.assertEqual((told, bound), (samples.listed(TOLD), [0, 1]))

    def test_errors(self):
        for function in (least_over, greatest_within):
            for bound in NO_CUTS:
                self.assert_raises(BadCut, 0, function, FOUR, TOLD, bound)
            for told in (*NO_HISTORIES, *samples.ODD_VALUES):
                for bound in ((0, 0), (5, 0), None, "", samples.DEEP):
                    self.assert_raises(BadStep, 0, function, FOUR, told, bound)


class Steps(samples.RaisesCase):

    def test_by_trial(self):
        for net, told in random_histories(14, 8):
            consistent = trials.consistent_rows(net, told)
            for cut in consistent:
                for function, by in ((steps_up, 1), (steps_down, -1)):
                    after = [tuple(many + by * (at == process) for at, many in enumerate(cut)) for process in range(len(cut))]
                    expected = tuple(step for step in after if step in consistent)
                    self.assertEqual(function(net, told, cut), expected)
                    self.assertEqual(function(net, told, list(cut)), expected)

    def test_ascending_by_processes(self):
        told = free_history(2, 2, 0, 1, 0)
        self.assertEqual(steps_up(FREE, told, (1, 0, 0, 0, 0)), ((2, 0, 0, 0, 0), (1, 1, 0, 0, 0), (1, 0, 0, 1, 0)))
        self.assertEqual(steps_down(FREE, told, (1, 2, 0, 1, 0)), ((0, 2, 0, 1, 0), (1, 1, 0, 1, 0), (1, 2, 0, 0, 0)))

    def test_none_of_the_whole_and_of_the_empty_one(self):
        for net, told in random_histories(40, 3):
            self.assertEqual(steps_up(net, told, tuple(map(len, told))), ())
            self.assertEqual(steps_down(net, told, (0,) * len(told)), ())
        self.assertEqual(steps_up(samples.LONE, ((),), (0,)), ())
        self.assertEqual(steps_down(samples.LONE, ((),), (0,)), ())

    def test_lists_and_names(self):
        told, cut = samples.listed(TOLD), [3, 3]
        self.assertEqual(steps_up(cut=cut, told=told, net=FOUR), ((4, 3),))
        self.assertEqual(steps_down(cut=cut, told=told, net=FOUR), ((3, 2),))
        self.assertEqual((told, cut), (samples.listed(TOLD), [3, 3]))

    def test_errors(self):
        for function in (steps_up, steps_down, parts):
            for cut in (*NO_CUTS, *NOT_CONSISTENT):
                self.assert_raises(BadCut, 0, function, FOUR, TOLD, cut)
            for told in (*NO_HISTORIES, *samples.ODD_VALUES):
                for cut in ((0, 0), (0, 1), None, "", samples.DEEP):
                    self.assert_raises(BadStep, 0, function, FOUR, told, cut)


class AllCuts(samples.RaisesCase):

    def test_by_trial(self):
        for net, told in random_histories(14, 8):
            expected = tuple(sorted(trials.consistent_rows(net, told), key=lambda cut: (sum(cut), cut)))
            self.assertEqual(all_cuts(net, told), expected)
            self.assertEqual(count_cuts(net, told), len(expected))
            for many in range(-3, sum(map(len, told)) + 4):
                self.assertEqual(level(net, told, many), tuple(cut for cut in expected if sum(cut) == many))

    def test_in_their_sequence(self):
        self.assertEqual(all_cuts(FOUR, TOLD), CUTS)
        self.assertEqual(count_cuts(FOUR, TOLD), 12)

    def test_levels_below_and_beyond(self):
        for many in (-1, -2, -8, -9, -10 ** 400, 9, 10, 60, 61, 10 ** 400):
            self.assertEqual(level(FOUR, TOLD, many), ())
        self.assertEqual(level(FOUR, TOLD, 0), ((0, 0),))
        self.assertEqual(level(FOUR, TOLD, 5), ((3, 2), (4, 1)))
        self.assertEqual(level(FOUR, TOLD, 8), ((4, 4),))

    def test_the_empty_history(self):
        self.assertEqual(all_cuts(FOUR, ((), ())), ((0, 0),))
        self.assertEqual(count_cuts(FOUR, ((), ())), 1)
        self.assertEqual(level(samples.LONE, ((),), 0), ((0,),))
        self.assertEqual(level(samples.LONE, ((),), 1), ())

    def test_lists_and_names(self):
        told = samples.listed(TOLD)
        self.assertEqual(all_cuts(told=told, net=FOUR), CUTS)
        self.assertEqual(count_cuts(told=told, net=FOUR), 12)
        self.assertEqual(level(many=5, told=told, net=FOUR), ((3, 2), (4, 1)))
        self.assertEqual(told, samples.listed(TOLD))
        self.assertTrue(samples.is_tuple_throughout(all_cuts(FOUR, told)))

    def test_just_5000(self):
        for net, told in JUST_5000:
            cuts = all_cuts(net, told)
            self.assertEqual((len(cuts), len(set(cuts)), count_cuts(net, told)), (5000, 5000, 5000))
            self.assertEqual(list(cuts), sorted(cuts, key=lambda cut: (sum(cut), cut)))
            self.assertEqual(level(net, told, 1), tuple(cut for cut in cuts if sum(cut) == 1))
            self.assertEqual(chain_count(net, told) > 10 ** 15, True)

    def test_somewhat_fewer(self):
        self.assertEqual(count_cuts(FREE, free_history(59, 1, 0, 0, 0)), 120)
        self.assertEqual(count_cuts(FREE, free_history(16, 16, 16, 0, 0)), 4913)
        self.assertEqual(count_cuts(FREE, free_history(4, 4, 4, 4, 4)), 3125)

    def test_too_many(self):
        for net, told in MORE:
            self.assert_raises(TooMany, "cuts", all_cuts, net, told)
            self.assert_raises(TooMany, "cuts", count_cuts, net, told)
            self.assert_raises(TooMany, "cuts", chain_count, net, told)
            for many in (0, 1, 30, 60, 61, -1, -10 ** 400, 10 ** 400):
                self.assert_raises(TooMany, "cuts", level, net, told, many)

    def test_what_does_not_ask_for_all_cuts_has_no_such_limit(self):
        for net, told in MORE:
            whole = tuple(map(len, told))
            self.assertEqual(len(primes(net, told)), sum(whole))
            self.assertEqual(least_over(net, told, whole), whole)
            self.assertEqual(steps_up(net, told, whole), ())
            self.assertLessEqual(len(parts(net, told, whole)), 5)

    def test_what_is_no_history(self):
        for told in (*NO_HISTORIES, *samples.ODD_VALUES, free_history(13, 12, 12, 12, 12)):
            for function in (all_cuts, count_cuts, primes, chain_count):
                self.assert_raises(BadStep, 0, function, FOUR, told)
            for many in (0, -1, 10 ** 400):
                self.assert_raises(BadStep, 0, level, FOUR, told, many)
        for function in (all_cuts, count_cuts, primes, chain_count):
            self.assert_raises(BadStep, 0, function, FREE, free_history(13, 12, 12, 12, 12))


class PrimesAndParts(samples.RaisesCase):

    def test_primes_are_the_clocks(self):
        for net, told in random_histories(30, 5):
            self.assertEqual(primes(net, told), tuple(clock for row in clocks(net, told) for clock in row))
        self.assertEqual(primes(FOUR, TOLD), ((1, 0), (2, 0), (3, 0), (4, 0), (3, 1), (3, 2), (3, 3), (4, 4)))
        self.assertEqual(primes(FOUR, ((), ())), ())

    def test_primes_are_not_joined_of_lesser_cuts(self):
        for net, told in random_histories(11, 8):
            cuts = trials.consistent_rows(net, told)
            expected = []
            for cut in cuts[1:]:
                under = [other for other in cuts if is_within(other, cut) and other != cut]
                if tuple(map(max, *under, under[0])) != cut:
                    expected.append(cut)
            self.assertEqual(sorted(primes(net, told)), expected)

    def test_parts_are_joined_to_the_cut_and_none_can_be_left_out(self):
        for net, told in random_histories(14, 8):
            clock_of = dict(zip(trials.events(told), primes(net, told)))
            pairs = trials.pairs_ahead(net, told)
            for cut in trials.consistent_rows(net, told):
                inside = [(process, at) for process, many in enumerate(cut) for at in range(many)]
                last = [one for one in inside if not any((one, other) in pairs for other in inside)]
                found = parts(net, told, cut)
                self.assertEqual(found, tuple(sorted(clock_of[event] for event in last)))
                self.assertEqual(parts(net, told, list(cut)), found)
                zero = (0,) * len(cut)
                self.assertEqual(tuple(map(max, zero, zero, *found)), cut)
                for at in range(len(found)):
                    self.assertNotEqual(tuple(map(max, zero, zero, *found[:at], *found[at + 1:])), cut)

    def test_the_empty_cut_has_none(self):
        for net, told in random_histories(20, 3):
            self.assertEqual(parts(net, told, (0,) * len(told)), ())

    def test_ascending_as_tuples(self):
        self.assertEqual(parts(FREE, free_history(1, 1, 1, 1, 1), (1, 1, 0, 1, 1)),
                         ((0, 0, 0, 0, 1), (0, 0, 0, 1, 0), (0, 1, 0, 0, 0), (1, 0, 0, 0, 0)))
        self.assertEqual(parts(FOUR, TOLD, (4, 3)), ((3, 3), (4, 0)))

    def test_lists_and_names(self):
        told, cut = samples.listed(TOLD), [4, 3]
        self.assertEqual(parts(cut=cut, told=told, net=FOUR), ((3, 3), (4, 0)))
        self.assertEqual(primes(told=told, net=FOUR), primes(FOUR, TOLD))
        self.assertEqual((told, cut), (samples.listed(TOLD), [4, 3]))


class ChainCount(samples.RaisesCase):

    def test_by_counting_runs(self):
        for net, told in random_histories(8, 12):
            self.assertEqual(chain_count(net, told), len(trials.runs_with(net, told)))
            self.assertEqual(chain_count(told=samples.listed(told), net=net), chain_count(net, told))

    def test_processes_on_their_own(self):
        self.assertEqual(chain_count(FREE, free_history(2, 2, 0, 0, 0)), 6)
        self.assertEqual(chain_count(FREE, free_history(1, 1, 1, 1, 1)), 120)
        self.assertEqual(chain_count(FREE, free_history(30, 30, 0, 0, 0)), 118264581564861424)
        self.assertEqual(chain_count(FREE, free_history(60, 0, 0, 0, 0)), 1)

    def test_one_run_where_all_wait(self):
        self.assertEqual(chain_count(FOUR, ((("act", 6), ("act", 7)), ())), 1)
        self.assertEqual(chain_count(FOUR, ((("act", 6),), (("lose", 3, 0),))), 1)
        self.assertEqual(chain_count(FOUR, TOLD), 4)

    def test_the_empty_history(self):
        self.assertEqual(chain_count(FOUR, ((), ())), 1)
        self.assertEqual(chain_count(samples.LONE, [[]]), 1)


if __name__ == "__main__":
    unittest.main()
