"""What stays: points [1], [29] and [30]."""

import itertools
import random
import unittest

import samples
import test_colours
import test_lattice
import test_markers
import trials
from cutweave.colours import coloured
from cutweave.cuts import run_through, world_at
from cutweave.errors import BadCut, BadStep
from cutweave.histories import history, is_history
from cutweave.lattice import all_cuts
from cutweave.markers import marked
from cutweave.nets import KINDS, Net
from cutweave.runs import played
from cutweave.stable import amount, ended, keeps, lost_amount, still
from cutweave.worlds import done, possible, start

FOUR = samples.FOUR
NETS = (FOUR, samples.RING, trials.PAIR, trials.MIXED)
# p sends 1 and 2 as long as it is in state 0; q takes 2 alone, and stands still behind it.
ENDING = {kind: Net((("p", 2), ("q", 2)), (("c", 0, 1, kind),), (
    (0, 0, ("send", 0, 1), 0), (0, 0, ("send", 0, 2), 0), (0, 0, ("do",), 1), (1, 0, ("take", 0, 2), 1))) for kind in KINDS}
WAITING = ((("a", 2), ("b", 2)), (("ab", 0, 1, "order"), ("ba", 1, 0, "loose lossy")),
           ((0, 0, ("send", 0, 1), 1), (1, 0, ("take", 0, 1), 1), (1, 1, ("send", 1, 2), 0), (0, 1, ("take", 1, 2), 0)))
# What is lost on the way back leaves a waiting for ever, and b, too.
STUCK = Net(*WAITING)


def worlds_behind_losses(net, world):
    """The world and all that rows of losses lead to, by trying all."""
    found, waiting = [], [world]
    while waiting:
        one = waiting.pop()
        if one not in found:
            found.append(one)
            waiting.extend(done(net, one, deed) for deed in possible(net, one) if deed[0] == "lose")
    return found


def still_by_trial(net, world):
    return all(deed[0] == "lose" for one in worlds_behind_losses(net, world) for deed in possible(net, one))


def sends(*tokens):
    """A world of ENDING in which p has sent these and is done, and q has done nothing."""
    return (1, 0), (len(tokens),), (tuple(enumerate(tokens)),)


class Still(samples.RaisesCase):

    def test_by_trial(self):
        seen = []
        for net in (*ENDING.values(), STUCK, *NETS):
            for seed in range(12):
                run = trials.random_run(net, random.Random(seed), 9)
                for world in played(net, run):
                    seen.append(still(net, world))
                    self.assertIs(seen[-1], still_by_trial(net, world))
        self.assertGreater(seen.count(True), 30)
        self.assertGreater(seen.count(False), 100)

    def test_nothing_to_do(self):
        self.assertIs(still(samples.LONE, start(samples.LONE)), True)
        self.assertIs(ended(samples.LONE, start(samples.LONE)), True)
        for net in ENDING.values():
            self.assertIs(still(net, sends()), True)

    def test_acts_still_to_do(self):
        for net in ENDING.values():
            self.assertIs(still(net, start(net)), False)
            self.assertIs(still(net, ((0, 1), (1,), ((),))), False)
        one_do = Net((("p", 2),), (), ((0, 1, ("do",), 1),))
        self.assertIs(still(one_do, start(one_do)), True)
        self.assertIs(still(Net((("p", 2),), (), ((0, 0, ("do",), 0),)), ((0,), (), ())), False)

    def test_messages_with_others_ahead_of_them(self):
        expected = {"order": True, "loose": False, "order lossy": False, "loose lossy": False}
        for kind, net in ENDING.items():
            self.assertIs(still(net, sends(1, 2)), expected[kind])
            self.assertIs(still(net, sends(1, 1, 1, 2, 1)), expected[kind])
            self.assertIs(still(net, sends(2, 1)), False)
            self.assertIs(still(net, sends(2)), False)

    def test_messages_that_no_rule_takes(self):
        for net in ENDING.values():
            self.assertIs(still(net, sends(1)), True)
            self.assertIs(still(net, sends(1, 1, 1)), True)
            self.assertIs(ended(net, sends(1)), False)
            # q takes no more behind its only take.
            self.assertIs(still(net, ((1, 1), (2,), (((1, 2),),))), True)

    def test_all_behind_a_still_world_are_still(self):
        seen = 0
        for net in (*ENDING.values(), STUCK):
            for seed in range(20):
                worlds = played(net, trials.random_run(net, random.Random(seed), 12))
                row = [still(net, world) for world in worlds]
                self.assertEqual(row, sorted(row))
                seen += row.count(True) > 1
        self.assertGreater(seen, 5)

    def test_behind_a_still_world_only_losses(self):
        seen = 0
        for net in (*ENDING.values(), STUCK):
            for seed in range(12):
                told = history(net, trials.random_run(net, random.Random(seed), 10))
                for cut in all_cuts(net, told):
                    if still(net, world_at(net, told, cut)):
                        rest = run_through(net, told, cut)[sum(cut):]
                        seen += len(rest)
                        self.assertEqual([deed for deed in rest if deed[0] != "lose"], [])
        self.assertGreater(seen, 10)

    def test_snapshots_begun_in_a_still_world(self):
        ordered = (ENDING["order"], Net(WAITING[0], (("ab", 0, 1, "order"), ("ba", 1, 0, "order")), WAITING[2]), test_markers.TRIO)
        self.assertGreater(self.still_snapshots(coloured, test_colours.Model, (*ENDING.values(), STUCK)), 50)
        self.assertGreater(self.still_snapshots(marked, test_markers.Model, ordered), 20)

    def still_snapshots(self, function, model, nets):
        """How many snapshots of all processes there were whose first begin stood in a still world; their cuts are still, too."""
        found = 0
        for net, seed in itertools.product(nets, range(25)):
            happenings = late_begins(model(net), random.Random(seed))
            deeds, snapshots = function(net, happenings)
            for s, cut, *_ in snapshots:
                first = [at for at, happening in enumerate(happenings) if happening[0] == "begin" and happening[2] == s][0]
                many = len([happening for happening in happenings[:first] if happening[0] not in ("begin", "mark")])
                if None not in cut and still(net, played(net, deeds)[many]):
                    found += 1
                    self.assertTrue(still(net, world_at(net, history(net, deeds), cut)))
        return found


def late_begins(model, chance):
    """Happenings that can be, with begins behind the first ten only."""
    told = []
    for at in range(40):
        can = [happening for happening in model.conceivable() if model.can(happening) and (at > 9 or happening[0] != "begin")]
        if can:
            told.append(chance.choice(can))
            model.do(told[-1])
    return told


class Ended(samples.RaisesCase):

    def test_still_and_nothing_present(self):
        seen = []
        for net in (*ENDING.values(), STUCK, *NETS):
            for seed in range(12):
                for world in played(net, trials.random_run(net, random.Random(seed), 9)):
                    seen.append(ended(net, world))
                    self.assertIs(seen[-1], still(net, world) and world[2] == ((),) * len(net.channels))
        self.assertGreater(seen.count(True), 10)

    def test_with_and_without_messages(self):
        for net in ENDING.values():
            self.assertIs(ended(net, sends()), True)
            self.assertIs(ended(net, sends(1)), False)
            self.assertIs(ended(net, ((1, 1), (1,), ((),))), True)
            self.assertIs(ended(net, start(net)), False)

    def test_lists_and_names(self):
        for function in (still, ended):
            for world in (sends(), sends(1), sends(1, 2)):
                told = samples.listed(world)
                self.assertIs(function(world=told, net=ENDING["loose"]), function(ENDING["loose"], world))
                self.assertEqual(told, samples.listed(world))


def random_weights(net, chance):
    return (tuple(tuple(chance.randrange(-5, 6) for _ in range(states)) for _, states in net.processes),
            tuple(chance.randrange(-5, 6) for _ in range(10)))


# Each rule of PAYING moves what a state is worth into a message or back; token 2 is worth 2, token 5 less than nothing.
PAYING = Net(
    (("p", 4), ("q", 5)),
    (("c", 0, 1, "order lossy"), ("d", 1, 0, "loose lossy")),
    (
        (0, 0, ("send", 0, 2), 1), (0, 1, ("send", 0, 5), 2), (0, 2, ("do",), 3), (0, 3, ("take", 1, 2), 1),
        (1, 0, ("take", 0, 2), 1), (1, 1, ("take", 0, 5), 2), (1, 1, ("send", 1, 2), 0), (1, 2, ("do",), 3), (1, 3, ("do",), 2),
    ),
)
# p begins with 4 and has 2, then 9 and 9; token 5 is worth -7. Its take leads from 9 to 11, which breaks it.
VALUES = ((4, 2, 9, 9), (-3, -1, -8, -8, 100))
WORTHS = (50, 0, 2, 0, 0, -7, 0, 0, 0, 0)
KEPT = Net(PAYING.processes, PAYING.channels, tuple(rule for at, rule in enumerate(PAYING.rules) if at != 3))


class Amounts(samples.RaisesCase):

    def test_by_hand(self):
        world = ((2, 1), (3, 0), (((0, 2), (2, 5)), ()))
        self.assertEqual(amount(PAYING, (VALUES, WORTHS), world), 9 - 1 + 2 - 7)
        self.assertEqual(amount(PAYING, (VALUES, WORTHS), start(PAYING)), 4 - 3)
        self.assertEqual(amount(samples.LONE, (((10 ** 30,),), (0,) * 10), start(samples.LONE)), 10 ** 30)

    def test_by_counting(self):
        for net, told in trials.random_histories(NETS, 30, 4):
            weights = random_weights(net, random.Random(len(told)))
            world = trials.world_behind(net, trials.some_run(net, told, random.Random(1)))
            expected = 0
            for process, state in enumerate(world[0]):
                expected += weights[0][process][state]
            for row in world[2]:
                for token in range(10):
                    expected += weights[1][token] * [pair[1] for pair in row].count(token)
            self.assertEqual(amount(net, weights, world), expected)
            self.assertEqual(amount(world=samples.listed(world), weights=samples.listed(weights), net=net), expected)

    def test_weights_that_are_kept(self):
        self.assertIs(keeps(KEPT, (VALUES, WORTHS)), True)
        self.assertIs(keeps(net=KEPT, weights=samples.listed((VALUES, WORTHS))), True)
        self.assertIs(keeps(PAYING, (VALUES, WORTHS)), False)
        self.assertIs(keeps(samples.LONE, (((7,),), (1,) * 10)), True)
        for net in NETS:
            nothing = (tuple((3,) * states for _, states in net.processes), (0,) * 10)
            self.assertIs(keeps(net, nothing), True)

    def test_weights_that_one_rule_alone_breaks(self):
        values, worths = ((0, 5),), (1, 2, 3, 4, 5, 6, 7, 8, 9, 10)
        for act, state, then, right in ((("do",), 0, 0, True), (("do",), 1, 1, True), (("do",), 0, 1, False), (("do",), 1, 0, False)):
            self.assertIs(keeps(Net((("p", 2),), (), ((0, state, act, then),)), (values, worths)), right)
        both = ((0, 5), (0, 5))
        for token, state, then in itertools.product(range(10), range(2), range(2)):
            sending = Net((("p", 2), ("q", 2)), (("c", 0, 1, "loose"),), ((0, state, ("send", 0, token), then),))
            self.assertIs(keeps(sending, (both, worths)), both[0][state] == both[0][then] + worths[token])
            taking = Net((("p", 2), ("q", 2)), (("c", 0, 1, "loose"),), ((1, state, ("take", 0, token), then),))
            self.assertIs(keeps(taking, (both, worths)), both[1][then] == both[1][state] + worths[token])
        for at in range(len(KEPT.rules)):
            process, state, act, then = KEPT.rules[at]
            changed = (*KEPT.rules[:at], (process, state, act, 4 if process else 0), *KEPT.rules[at + 1:])
            self.assertIs(keeps(Net(KEPT.processes, KEPT.channels, changed), (VALUES, WORTHS)), False)

    def test_kept_weights_are_what_each_deed_leaves(self):
        chance = random.Random(3)
        seen = []
        for net in (KEPT, trials.PAIR, samples.RING, FOUR):
            for _ in range(30):
                weights = (VALUES, WORTHS) if net is KEPT else random_weights(net, chance)
                if chance.random() < 0.5 and net is not KEPT:
                    weights = (tuple((chance.choice((0, 1)),) * states for _, states in net.processes), (0,) * 10)
                # A rule alone, in worlds in which it can be done.
                rights = []
                for process, state, act, then in net.rules:
                    states = tuple(state if at == process else 0 for at in range(len(net.processes)))
                    after = tuple(then if at == process else 0 for at in range(len(net.processes)))
                    token = act[2] if act[0] != "do" else None
                    with_it, without = ((((0, token),),), ((),))
                    if act[0] == "do":
                        before, behind = (states, (0,), without), (after, (0,), without)
                    elif act[0] == "send":
                        before, behind = (states, (0,), without), (after, (1,), with_it)
                    else:
                        before, behind = (states, (1,), with_it), (after, (1,), without)
                    rights.append(amount(net, weights, before) == amount(net, weights, behind))
                seen.append(keeps(net, weights))
                self.assertIs(seen[-1], all(rights))
        self.assertGreater(seen.count(True), 20)
        self.assertGreater(seen.count(False), 20)


class Lost(samples.RaisesCase):

    def test_kept_amounts_together(self):
        weights = (VALUES, WORTHS)
        seen = set()
        for seed in range(25):
            told = history(KEPT, trials.random_run(KEPT, random.Random(seed), 14))
            for cut in all_cuts(KEPT, told):
                lost = lost_amount(KEPT, told, cut, weights)
                seen.add(lost)
                self.assertEqual(amount(KEPT, weights, world_at(KEPT, told, cut)) + lost, 1)
        self.assertGreater(len(seen), 3)

    def test_by_counting(self):
        for net, told in trials.random_histories(NETS, 20, 3):
            weights = random_weights(net, random.Random(len(told)))
            tokens = {}
            for message, (process, at) in trials.send_events(net, told).items():
                tokens[message] = net.rules[told[process][at][1]][2][2]
            for cut in trials.consistent_rows(net, told)[::7]:
                lost = [deed[1:] for row, many in zip(told, cut) for deed in row[:many] if deed[0] == "lose"]
                expected = sum(weights[1][tokens[message]] for message in lost)
                self.assertEqual(lost_amount(net, told, cut, weights), expected)
                arguments = {"weights": samples.listed(weights), "cut": list(cut), "told": samples.listed(told), "net": net}
                self.assertEqual(lost_amount(**arguments), expected)

    def test_just_in_and_just_out(self):
        told = history(FOUR, (("act", 6), ("act", 7), ("lose", 3, 1), ("take", 15, 0)))
        weights = (((0, 0), (0, 0, 0)), (0, 0, 0, 0, 0, 10, -300, 0, 0, 0))
        self.assertEqual(lost_amount(FOUR, told, (0, 0), weights), 0)
        self.assertEqual(lost_amount(FOUR, told, (2, 0), weights), 0)
        self.assertEqual(lost_amount(FOUR, told, (2, 1), weights), -300)
        self.assertEqual(lost_amount(FOUR, told, (2, 2), weights), -300)

    def test_of_the_empty_cut(self):
        for net, told in trials.random_histories(NETS, 20, 2):
            self.assertEqual(lost_amount(net, told, (0,) * len(told), random_weights(net, random.Random(1))), 0)

    def test_what_is_no_history(self):
        for told in (*test_lattice.NO_HISTORIES, *samples.ODD_VALUES):
            if not is_history(FOUR, told):
                for cut in ((0, 0), (9, 9), None, samples.DEEP):
                    self.assert_raises(BadStep, 0, lost_amount, FOUR, told, cut, random_weights(FOUR, random.Random(1)))

    def test_what_is_no_consistent_cut(self):
        weights = random_weights(FOUR, random.Random(1))
        for cut in (*test_lattice.NO_CUTS, *test_lattice.NOT_CONSISTENT):
            self.assert_raises(BadCut, 0, lost_amount, FOUR, test_lattice.TOLD, cut, weights)


if __name__ == "__main__":
    unittest.main()
