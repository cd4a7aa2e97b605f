"""What the document says of several modules together, on nets, runs and claims as chance has them."""

import doctest
import random
import unittest

import samples
import test_colours
import test_markers
import test_papers
import test_rollback
import trials
from cutweave.checking import paper_holds
from cutweave.claims import claim_text, holds, read_claim
from cutweave.clocks import ahead, clocks
from cutweave.colours import coloured
from cutweave.cuts import is_cut, run_through, world_at
from cutweave.desk import Desk
from cutweave.garbage import droppable, floor, open_messages
from cutweave.histories import history, is_history, least_run, same_history
from cutweave.keeping import local_state, replayed, resent, resumed
from cutweave.lattice import all_cuts, chain_count, count_cuts, greatest_within, least_over, steps_up
from cutweave.markers import marked
from cutweave.nets import net_text, read_net
from cutweave.rollback import domino, line, logged_line
from cutweave.runs import played
from cutweave.stable import amount, ended, keeps, lost_amount, still
from cutweave.tales import Tale
from cutweave.ways import avoiding, definitely, possibly

EXAMPLE = r"""
>>> from cutweave.nets import read_net
>>> from cutweave.runs import played
>>> from cutweave.histories import history
>>> from cutweave.cuts import is_cut
>>> net = read_net("process p 2\nprocess q 2\nchannel c p q order\n"
...                "rule p 0 send c 5 1\nrule q 0 take c 5 1\n")
>>> deeds = (("act", 0), ("take", 1, 0))
>>> told = history(net, deeds)
>>> told
((('act', 0),), (('take', 1, 0),))
>>> is_cut(net, told, (1, 0)), is_cut(net, told, (0, 1))
(True, False)
>>> played(net, deeds)[1]
((1, 0), (1,), (((0, 5),),))
"""


def drawn(seeds, most, kinds=("order", "loose", "order lossy", "loose lossy")):
    """Chance, a net and a run, for each of so many seeds."""
    for seed in range(seeds):
        chance = random.Random(seed)
        net = trials.random_net(chance, kinds)
        yield chance, net, trials.random_run(net, chance, most)


class Whole(samples.RaisesCase):

    def test_the_example(self):
        test = doctest.DocTestParser().get_doctest(EXAMPLE, {}, "example", None, None)
        told = doctest.DocTestRunner(verbose=False).run(test)
        self.assertEqual((told.failed, told.attempted), (0, 10))

    def test_texts(self):
        for chance, net, run in drawn(40, 10):
            self.assertEqual(read_net(net_text(net)), net)
            claim = trials.near_claim(net, history(net, run), chance)
            self.assertEqual(read_claim(net, claim_text(net, claim)), claim)

    def test_runs_with_one_history(self):
        for chance, net, run in drawn(40, 40):
            told = history(net, run)
            other = trials.some_run(net, told, chance)
            self.assertTrue(is_history(net, told))
            self.assertTrue(same_history(net, run, other))
            self.assertEqual(played(net, run)[-1], played(net, other)[-1])
            self.assertEqual(least_run(net, told), least_run(net, history(net, other)))

    def test_cuts_are_what_runs_go_through(self):
        for chance, net, run in drawn(40, 30):
            told = history(net, run)
            for many in range(0, len(run) + 1, 5):
                cut = tuple(map(len, history(net, run[:many])))
                self.assertTrue(is_cut(net, told, cut))
                self.assertEqual(world_at(net, told, cut), played(net, run)[many])
                through = run_through(net, told, cut)
                self.assertEqual(history(net, through), told)
                self.assertEqual(played(net, through)[many], world_at(net, told, cut))
                self.assertEqual(resent(net, told, cut), world_at(net, told, cut)[2])
                self.assertEqual(resumed(net, told, cut, through[many:]), played(net, through)[many:])
                self.assertEqual(resumed(net, told, cut, run[many:]), played(net, run)[many:])
                for process, number in enumerate(cut):
                    self.assertEqual(local_state(net, told, process, number), world_at(net, told, cut)[0][process])
                    states = replayed(net, process, local_state(net, told, process, number), told[process][number:])
                    self.assertEqual(states[-1], world_at(net, told, tuple(map(len, told)))[0][process])

    def test_worlds_without_a_run(self):
        # What claims are asked of is the world that the deeds in the cut lead to, made without doing them.
        for chance, net, run in drawn(40, 12):
            told = history(net, run)
            tale = Tale(net, told)
            for cut in all_cuts(net, told)[::3]:
                self.assertEqual(tale.world_behind(cut), world_at(net, told, cut))

    def test_clocks_and_the_lattice(self):
        for chance, net, run in drawn(40, 9):
            told = history(net, run)
            cuts = all_cuts(net, told)
            self.assertEqual(len(cuts), count_cuts(net, told))
            self.assertEqual(sorted(cuts), sorted(cut for cut in trials.all_rows(told) if is_cut(net, told, cut)))
            self.assertEqual(chain_count(net, told), len(trials.runs_with(net, told)))
            for process, row in enumerate(clocks(net, told)):
                for at, clock in enumerate(row):
                    bound = tuple(at + 1 if other == process else 0 for other in range(len(told)))
                    self.assertEqual(least_over(net, told, bound), clock)
                    for other in trials.events(told):
                        is_ahead = other != (process, at) and clock[other[0]] > other[1]
                        self.assertEqual(ahead(net, told, other, (process, at)), is_ahead)
            for bound in trials.all_rows(told)[::3]:
                self.assertEqual(greatest_within(net, told, bound), trials.greatest(
                    [cut for cut in cuts if test_rollback.is_nowhere_less(bound, cut)]))

    def test_snapshots_by_markers(self):
        finished = 0
        for seed in range(60):
            chance = random.Random(seed)
            net = trials.random_net(chance, ("order",))
            happenings = test_markers.random_happenings(net, chance, 50)
            deeds, snapshots = marked(net, happenings)
            told = history(net, deeds)
            for _, cut, under_way, is_finished in snapshots:
                if is_finished:
                    finished += 1
                    self.assertTrue(is_cut(net, told, cut))
                    self.assertEqual(world_at(net, told, cut)[2], under_way)
                    self.assertEqual(played(net, run_through(net, told, cut))[sum(cut)], world_at(net, told, cut))
        self.assertGreater(finished, 20)

    def test_snapshots_by_colours(self):
        recorded = 0
        for seed in range(60):
            chance = random.Random(seed)
            net = trials.random_net(chance)
            happenings = list(test_colours.random_happenings(net, chance, 50))
            # What is not recorded yet is recorded at the end.
            happenings.extend([("begin", process, s) for s, cut, *_ in coloured(net, happenings)[1]
                               for process, many in enumerate(cut) if many is None])
            deeds, snapshots = coloured(net, happenings)
            told = history(net, deeds)
            for _, cut, under_way, lost, awaited in snapshots:
                if None not in cut:
                    recorded += 1
                    self.assertTrue(is_cut(net, told, cut))
                    together = tuple(tuple(sorted((*one, *two, *three))) for one, two, three in zip(under_way, lost, awaited))
                    self.assertEqual(world_at(net, told, cut)[2], together)
        self.assertGreater(recorded, 60)

    def test_ways_and_papers(self):
        for chance, net, run in drawn(60, 7):
            told = history(net, run)
            for _ in range(4):
                claim = trials.near_claim(net, told, chance)
                ways = [any(holds(net, claim, world) for world in played(net, one)) for one in trials.runs_with(net, told)]
                self.assertEqual(possibly(net, told, claim) is not None, any(ways))
                self.assertEqual(definitely(net, told, claim), all(ways))
                self.assertEqual(avoiding(net, told, claim) is None, all(ways))
                truth = {"some": any(ways), "none": not any(ways), "avoid": not all(ways), "always": all(ways)}
                for kind, is_true in truth.items():
                    paper = test_papers.made(kind, net, told, claim)
                    self.assertEqual(paper is not None, is_true)
                    if is_true:
                        self.assertEqual(paper_holds(net, told, claim, paper), kind)
                opposite = ("not", claim)
                self.assertEqual(test_papers.made("none", net, told, opposite) is not None, possibly(net, told, opposite) is None)

    def test_what_stays(self):
        quiet = 0
        for seed in range(80):
            # Each process goes on to greater states but by takes, so that every run comes to its end.
            net = trials.random_net(random.Random(seed), keeps=lambda rule: rule[3] > rule[1] or rule[2][0] == "take")
            told = history(net, trials.random_run(net, random.Random(seed), 14))
            for cut in all_cuts(net, told)[::3]:
                world = world_at(net, told, cut)
                self.assertEqual(ended(net, world), still(net, world) and resent(net, told, cut) == ((),) * len(net.channels))
                if still(net, world):
                    rest = run_through(net, told, cut)[sum(cut):]
                    quiet += 1
                    self.assertEqual({deed[0] for deed in rest} - {"lose"}, set())
                    self.assertTrue(all(still(net, world_at(net, told, step)) for step in steps_up(net, told, cut)))
        self.assertGreater(quiet, 20)

    def test_amounts(self):
        lossy = 0
        for seed in range(80):
            chance = random.Random(seed)
            values = tuple(tuple(chance.randrange(-3, 4) for _ in range(4)) for _ in range(5))
            worths = tuple(chance.randrange(-2, 3) for _ in range(10))

            def kept(rule):
                process, state, act, then = rule
                change = 0 if act[0] == "do" else worths[act[2]] * (1 if act[0] == "take" else -1)
                return values[process][then] - values[process][state] == change

            net = trials.random_net(chance, ("order lossy", "loose lossy"), kept)
            weights = (values, worths)
            self.assertTrue(keeps(net, weights))
            run = trials.random_run(net, chance, 14)
            told = history(net, run)
            before = amount(net, weights, played(net, ())[0])
            for cut in all_cuts(net, told)[::3]:
                lost = lost_amount(net, told, cut, weights)
                lossy += lost != 0
                self.assertEqual(amount(net, weights, world_at(net, told, cut)) + lost, before)
        self.assertGreater(lossy, 20)

    def test_rollback_and_garbage(self):
        for chance, net, run in drawn(80, 40):
            many = chance.randrange(len(run) + 1)
            told, later = history(net, run[:many]), history(net, run)
            checkpoints = trials.random_checkpoints(told, chance)
            failed = trials.random_failed(told, chance)
            cut = line(net, told, checkpoints, failed)
            self.assertTrue(is_cut(net, told, cut))
            steps = domino(net, told, checkpoints, failed)
            numbers = dict(enumerate(map(len, told)))
            numbers.update({process: newer for process, _, newer, _, _ in steps})
            self.assertEqual(tuple(numbers.values()), cut)
            least = floor(net, told, checkpoints)
            logs = test_rollback.random_logs(told, checkpoints, chance)
            self.assertTrue(test_rollback.is_nowhere_less(logged_line(net, told, checkpoints, logs, failed), cut))
            self.assertTrue(test_rollback.is_nowhere_less(cut, least))
            # The history goes on, with more checkpoints behind the present ones.
            more = tuple((*row, *range(row[-1] + 1, len(deeds) + 1, 3)) for row, deeds in zip(checkpoints, later))
            then = line(net, later, more, failed)
            self.assertTrue(test_rollback.is_nowhere_less(then, least))
            for number, row in zip(then, droppable(net, told, checkpoints)):
                self.assertNotIn(number, row)
            opened, sent = open_messages(net, told, checkpoints), played(net, run[:many])[-1][1]
            for channel, row in enumerate(resent(net, later, then)):
                self.assertEqual([pair for pair in row if pair not in opened[channel] and pair[0] < sent[channel]], [])

    def test_the_desk_beside_the_functions(self):
        for chance, net, run in drawn(30, 12):
            desk, told = Desk(net), history(net, run)
            for at, deed in enumerate(run):
                self.assertEqual(desk.tell(" ".join(map(str, deed))), str(at + 1))
            self.assertEqual(desk.tell("cuts"), str(count_cuts(net, told)))
            claim = trials.near_claim(net, told, chance)
            self.assertEqual(desk.tell(f"possibly {claim_text(net, claim)}"), " ".join(map(str, possibly(net, told, claim))))
            self.assertEqual(desk.tell(f"definitely {claim_text(net, claim)}"), "yes" if definitely(net, told, claim) else "no")
            names = [name for name, _ in net.processes]
            self.assertEqual([desk.tell(f"keep {name}") for name in names[::2]], [str(len(row)) for row in told[::2]])
            kept = tuple(tuple(sorted({0, len(row)})) if at % 2 == 0 else (0,) for at, row in enumerate(told))
            cut = floor(net, told, kept)
            self.assertEqual(desk.tell("fail " + " ".join(names)), " ".join(map(str, cut)))
            short = tuple(row[:many] for row, many in zip(told, cut))
            self.assertEqual(desk.tell("cuts"), str(count_cuts(net, short)))
            self.assertEqual(desk.tell(f"possibly {claim_text(net, ('not', claim))}"), self.told_cut(net, short, ("not", claim)))

    def told_cut(self, net, told, claim):
        cut = possibly(net, told, claim)
        return "never" if cut is None else " ".join(map(str, cut))


if __name__ == "__main__":
    unittest.main()
