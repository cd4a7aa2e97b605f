"""Ways: points [1] and [25]."""

import random
import unittest

import samples
import test_claims
import test_lattice
import trials
from cutweave.claims import holds
from cutweave.cuts import world_at
from cutweave.errors import BadStep, TooMany
from cutweave.histories import history, is_history
from cutweave.lattice import all_cuts
from cutweave.nets import Net
from cutweave.runs import played
from cutweave.ways import avoiding, definitely, possibly

FOUR = samples.FOUR
NETS = (FOUR, samples.RING, trials.PAIR, trials.MIXED)
# No process has so great a state, so these hold nowhere and everywhere.
NOWHERE = ("state", 0, 99)
EVERYWHERE = ("not", NOWHERE)
# p and q go from 0 to 1 each on its own.
APART = Net((("p", 3), ("q", 3)), (("c", 0, 1, "loose"),), ((0, 0, ("do",), 1), (1, 0, ("do",), 1), (0, 1, ("do",), 2)))
BOTH = ((("act", 0),), (("act", 1),))
ONE_AHEAD = ("or", ("and", ("state", 0, 1), ("state", 1, 0)), ("and", ("state", 0, 0), ("state", 1, 1)))
P_AHEAD = ("and", ("state", 0, 1), ("state", 1, 0))
Q_AHEAD = ("and", ("state", 0, 0), ("state", 1, 1))


def cases(most, seeds, claims, nets=NETS):
    """Nets with histories, and with each some claims of all kinds and depths."""
    chance = random.Random(most)
    for net, told in trials.random_histories(nets, most, seeds):
        for claim in (NOWHERE, EVERYWHERE):
            yield net, told, claim
        for at in range(claims):
            yield net, told, test_claims.random_claim(net, chance, at + 1)
            yield net, told, trials.near_claim(net, told, chance)


def avoiding_runs(net, told, claim):
    """All runs with this history in none of whose worlds the claim holds."""
    return [run for run in trials.runs_with(net, told) if not any(holds(net, claim, world) for world in played(net, run))]


def first_holding(net, told, claim):
    for cut in all_cuts(net, told):
        if holds(net, claim, world_at(net, told, cut)):
            return cut
    return None


class Possibly(samples.RaisesCase):

    def test_all_cuts_by_trial(self):
        found = []
        for net, told, claim in cases(14, 4, 7):
            found.append(possibly(net, told, claim))
            self.assertEqual(found[-1], first_holding(net, told, claim))
            self.assertEqual(found[-1] is not None, any(
                holds(net, claim, world_at(net, told, cut)) for cut in trials.consistent_rows(net, told)))
        self.assertGreater(found.count(None), 10)
        self.assertGreater(len([cut for cut in found if cut and 0 < sum(cut)]), 20)

    def test_the_first_one_counts(self):
        self.assertEqual(possibly(APART, BOTH, ONE_AHEAD), (0, 1))
        self.assertEqual(possibly(APART, BOTH, P_AHEAD), (1, 0))
        self.assertEqual(possibly(APART, BOTH, ("and", ("state", 0, 1), ("state", 1, 1))), (1, 1))
        self.assertEqual(possibly(APART, BOTH, ("or", ("state", 0, 1), ("state", 1, 1))), (0, 1))
        self.assertEqual(possibly(APART, BOTH, ("and", ("state", 0, 0), ("state", 1, 0))), (0, 0))
        self.assertIsNone(possibly(APART, BOTH, ("state", 0, 2)))

    def test_everywhere_and_nowhere(self):
        for net, told in trials.random_histories(NETS, 14, 3):
            self.assertEqual(possibly(net, told, EVERYWHERE), (0,) * len(told))
            self.assertIsNone(possibly(net, told, NOWHERE))

    def test_without_events(self):
        for net in (*NETS, samples.LONE):
            empty = ((),) * len(net.processes)
            self.assertEqual(possibly(net, empty, ("state", 0, 0)), (0,) * len(net.processes))
            self.assertIsNone(possibly(net, empty, ("state", 0, 1)))

    def test_messages_in_the_channels(self):
        told = history(FOUR, (("act", 6), ("act", 7), ("lose", 3, 0), ("take", 16, 1)))
        self.assertEqual(possibly(FOUR, told, ("count", 3, ">", 1)), (2, 0))
        self.assertEqual(possibly(FOUR, told, ("tokens", 3, 6, "=", 1)), (2, 0))
        self.assertEqual(possibly(FOUR, told, ("and", ("tokens", 3, 5, "=", 0), ("tokens", 3, 6, "=", 1))), (2, 1))
        self.assertEqual(possibly(FOUR, told, ("and", ("count", 3, "<", 1), ("state", 1, 2))), (2, 2))


class Definitely(samples.RaisesCase):

    def test_all_runs_by_trial(self):
        seen = []
        for net, told, claim in cases(7, 5, 8):
            seen.append(definitely(net, told, claim))
            self.assertIs(seen[-1], avoiding_runs(net, told, claim) == [])
        self.assertGreater(seen.count(True), 20)
        self.assertGreater(seen.count(False), 20)

    def test_it_is_that_nothing_avoids(self):
        for net, told, claim in cases(14, 4, 7):
            self.assertIs(definitely(net, told, claim), avoiding(net, told, claim) is None)

    def test_held_possibly_but_not_on_each_way(self):
        for claim in (P_AHEAD, Q_AHEAD):
            self.assertIsNotNone(possibly(APART, BOTH, claim))
            self.assertIs(definitely(APART, BOTH, claim), False)
        self.assertIs(definitely(APART, BOTH, ONE_AHEAD), True)

    def test_the_ends_count(self):
        self.assertIs(definitely(APART, BOTH, ("and", ("state", 0, 0), ("state", 1, 0))), True)
        self.assertIs(definitely(APART, BOTH, ("and", ("state", 0, 1), ("state", 1, 1))), True)
        self.assertIs(definitely(samples.LONE, ((),), ("state", 0, 0)), True)
        self.assertIs(definitely(samples.LONE, ((),), ("state", 0, 1)), False)

    def test_possibly_is_some_run_and_definitely_each_run(self):
        for net, told, claim in cases(7, 3, 8):
            runs = trials.runs_with(net, told)
            ways = [any(holds(net, claim, world) for world in played(net, run)) for run in runs]
            self.assertEqual(possibly(net, told, claim) is not None, any(ways))
            self.assertEqual(definitely(net, told, claim), all(ways))


class Avoiding(samples.RaisesCase):

    def test_the_least_of_all_that_avoid(self):
        several = 0
        for net, told, claim in cases(7, 6, 8):
            runs = avoiding_runs(net, told, claim)
            least = min(runs, key=lambda run: trials.owners(net, run), default=None)
            self.assertEqual(avoiding(net, told, claim), least)
            several += 1 < len(runs) < len(trials.runs_with(net, told))
        self.assertGreater(several, 10)

    def test_it_is_a_run_with_this_history_and_avoids(self):
        found = 0
        for net, told, claim in cases(40, 2, 6, (samples.RING, trials.PAIR)):
            run = avoiding(net, told, claim)
            if run is not None:
                found += 1
                self.assertEqual(history(net, run), told)
                self.assertFalse(any(holds(net, claim, world) for world in played(net, run)))
        self.assertGreater(found, 5)

    def test_the_least_process_goes_first_if_it_leads_on(self):
        self.assertEqual(avoiding(APART, BOTH, NOWHERE), (("act", 0), ("act", 1)))
        self.assertEqual(avoiding(APART, BOTH, P_AHEAD), (("act", 1), ("act", 0)))
        self.assertEqual(avoiding(APART, BOTH, Q_AHEAD), (("act", 0), ("act", 1)))
        self.assertIsNone(avoiding(APART, BOTH, ONE_AHEAD))

    def test_what_leads_nowhere_is_left_out(self):
        told = ((("act", 0), ("act", 2)), (("act", 1),))
        far_ahead = ("and", ("state", 0, 2), ("state", 1, 0))
        # The world behind the first deed of p is free, but neither of the next two is.
        blind = ("or", far_ahead, ("and", ("state", 0, 1), ("state", 1, 1)))
        self.assertEqual(avoiding(APART, told, far_ahead), (("act", 0), ("act", 1), ("act", 2)))
        self.assertEqual(avoiding(APART, told, P_AHEAD), (("act", 1), ("act", 0), ("act", 2)))
        self.assertIsNone(avoiding(APART, told, blind))
        # With a step more of q there is a way around.
        more = Net((("p", 3), ("q", 3)), (), (*APART.rules, (1, 1, ("do",), 2)))
        around = (("act", 1), ("act", 3), ("act", 0), ("act", 2))
        self.assertEqual(avoiding(more, (told[0], (("act", 1), ("act", 3))), blind), around)

    def test_without_events(self):
        self.assertEqual(avoiding(samples.LONE, ((),), ("state", 0, 1)), ())
        self.assertIsNone(avoiding(samples.LONE, ((),), ("state", 0, 0)))


class AllThree(samples.RaisesCase):

    def test_what_is_no_history(self):
        for function in (possibly, definitely, avoiding):
            for told in (*test_lattice.NO_HISTORIES, *samples.ODD_VALUES):
                for claim in (NOWHERE, EVERYWHERE, ("count", 0, "<", 1)):
                    if not is_history(FOUR, told):
                        self.assert_raises(BadStep, 0, function, FOUR, told, claim)

    def test_more_than_5000_cuts(self):
        for function in (possibly, definitely, avoiding):
            for net, told in test_lattice.MORE:
                for claim in (NOWHERE, EVERYWHERE, ("state", 0, 0)):
                    self.assert_raises(TooMany, "cuts", function, net, told, claim)

    def test_just_5000_cuts(self):
        for net, told in test_lattice.JUST_5000:
            whole = tuple(map(len, told))
            self.assertIsNone(possibly(net, told, NOWHERE))
            self.assertEqual(possibly(net, told, EVERYWHERE), (0,) * len(whole))
            self.assertIs(definitely(net, told, NOWHERE), False)
            self.assertEqual(history(net, avoiding(net, told, NOWHERE)), told)

    def test_deep_claims(self):
        told = history(FOUR, (("act", 8),))
        for depth in range(1, 17):
            claim = test_claims.nots(depth - 1)
            self.assertEqual(possibly(FOUR, told, claim), (1, 0) if depth % 2 else (0, 0))
            self.assertIs(definitely(FOUR, told, claim), True)
        row = test_claims.in_a_row(15, "or")
        self.assertEqual(possibly(FOUR, told, row), (1, 0))
        self.assertEqual(avoiding(FOUR, told, ("not", test_claims.in_a_row(14, "or"))), None)

    def test_lists_and_names(self):
        told = samples.listed(BOTH)
        claim = samples.listed(P_AHEAD)
        self.assertEqual(possibly(claim=claim, told=told, net=APART), (1, 0))
        self.assertIs(definitely(claim=claim, told=told, net=APART), False)
        self.assertEqual(avoiding(claim=claim, told=told, net=APART), (("act", 1), ("act", 0)))
        self.assertTrue(samples.is_tuple_throughout(avoiding(APART, told, claim)))
        self.assertTrue(samples.is_tuple_throughout(possibly(APART, told, claim)))
        self.assertEqual((told, claim), (samples.listed(BOTH), samples.listed(P_AHEAD)))


if __name__ == "__main__":
    unittest.main()
