"""Papers: points [1], [26] and [28]."""

import random
import re
import unittest

import samples
import test_lattice
import test_ways
import trials
from cutweave.checking import paper_holds
from cutweave.claims import holds
from cutweave.cuts import world_at
from cutweave.errors import BadStep, NothingThere, TooMany
from cutweave.histories import history, is_history
from cutweave.lattice import all_cuts, steps_up
from cutweave.nets import Net
from cutweave.papers import always_paper, avoid_paper, none_paper, some_paper
from cutweave.ways import avoiding, possibly

FOUR = samples.FOUR
APART, BOTH = test_ways.APART, test_ways.BOTH
NOWHERE, EVERYWHERE = test_ways.NOWHERE, test_ways.EVERYWHERE
MAKERS = {"some": some_paper, "none": none_paper, "avoid": avoid_paper, "always": always_paper}


def made(kind, net, told, claim):
    """The paper of this kind, None if there is none."""
    try:
        return MAKERS[kind](net, told, claim)
    except NothingThere as error:
        return None if error.name == kind else error


def cut_lines(cuts):
    return "".join("cut " + " ".join(map(str, cut)) + "\n" for cut in cuts)


def deed_lines(run):
    return "".join(" ".join(map(str, deed)) + "\n" for deed in run)


def reached(net, told, claim):
    """The cuts reached from the empty one over cuts at which the claim does not hold, by rounds of steps."""
    free = {cut for cut in all_cuts(net, told) if not holds(net, claim, world_at(net, told, cut))}
    found = free & {(0,) * len(told)}
    while True:
        more = {step for cut in found for step in steps_up(net, told, cut)} & free - found
        if not more:
            return sorted(found)
        found |= more


class Papers(samples.RaisesCase):

    def test_just_one_of_each_two(self):
        seen = {kind: 0 for kind in MAKERS}
        for net, told, claim in test_ways.cases(12, 4, 7):
            papers = {kind: made(kind, net, told, claim) for kind in MAKERS}
            self.assertEqual((papers["some"] is None) + (papers["none"] is None), 1)
            self.assertEqual((papers["avoid"] is None) + (papers["always"] is None), 1)
            for kind, paper in papers.items():
                if paper is not None:
                    seen[kind] += 1
                    self.assertEqual(paper_holds(net, told, claim, paper), kind)
        self.assertGreater(min(seen.values()), 20)

    def test_the_lines(self):
        for net, told, claim in test_ways.cases(10, 4, 6):
            cut, run = possibly(net, told, claim), avoiding(net, told, claim)
            if cut is None:
                self.assertEqual(none_paper(net, told, claim), "none\n" + cut_lines(sorted(all_cuts(net, told))))
                self.assert_raises(NothingThere, "some", some_paper, net, told, claim)
            else:
                self.assertEqual(some_paper(net, told, claim), "some\n" + cut_lines([cut]))
                self.assert_raises(NothingThere, "none", none_paper, net, told, claim)
            if run is None:
                self.assertEqual(always_paper(net, told, claim), "always\n" + cut_lines(reached(net, told, claim)))
                self.assert_raises(NothingThere, "avoid", avoid_paper, net, told, claim)
            else:
                self.assertEqual(avoid_paper(net, told, claim), "avoid\n" + deed_lines(run))
                self.assert_raises(NothingThere, "always", always_paper, net, told, claim)

    def test_as_they_are_written(self):
        ahead = ("or", test_ways.P_AHEAD, ("state", 1, 1))
        self.assertEqual(some_paper(APART, BOTH, ahead), "some\ncut 0 1\n")
        self.assertEqual(always_paper(APART, BOTH, ahead), "always\ncut 0 0\n")
        self.assertEqual(none_paper(APART, BOTH, NOWHERE), "none\ncut 0 0\ncut 0 1\ncut 1 0\ncut 1 1\n")
        self.assertEqual(avoid_paper(APART, BOTH, test_ways.P_AHEAD), "avoid\nact 1\nact 0\n")
        told = history(FOUR, (("act", 6), ("act", 7), ("lose", 3, 0), ("take", 16, 1)))
        self.assertEqual(avoid_paper(FOUR, told, NOWHERE), "avoid\nact 6\nact 7\nlose 3 0\ntake 16 1\n")

    def test_always_where_it_holds_at_the_empty_cut(self):
        self.assertEqual(always_paper(APART, BOTH, EVERYWHERE), "always\n")
        self.assertEqual(always_paper(APART, BOTH, ("state", 0, 0)), "always\n")
        self.assertEqual(always_paper(APART, ((), ()), ("state", 0, 0)), "always\n")

    def test_always_where_it_holds_at_the_whole_cut_alone(self):
        paper = always_paper(APART, BOTH, ("and", ("state", 0, 1), ("state", 1, 1)))
        self.assertEqual(paper, "always\ncut 0 0\ncut 0 1\ncut 1 0\n")

    def test_always_has_no_cuts_behind_those_at_which_it_holds(self):
        told = ((("act", 0), ("act", 2)), (("act", 1),))
        self.assertEqual(always_paper(APART, told, ("state", 0, 1)), "always\ncut 0 0\ncut 0 1\n")

    def test_cuts_rise_as_tuples_not_as_texts(self):
        told = test_lattice.free_history(11, 1, 0, 0, 0)
        lines = none_paper(test_lattice.FREE, told, NOWHERE).split("\n")[1:-1]
        cuts = [tuple(map(int, line.split(" ")[1:])) for line in lines]
        self.assertEqual(cuts, [(many, other, 0, 0, 0) for many in range(12) for other in range(2)])

    def test_without_events(self):
        self.assertEqual(none_paper(samples.LONE, ((),), NOWHERE), "none\ncut 0\n")
        self.assertEqual(some_paper(samples.LONE, ((),), EVERYWHERE), "some\ncut 0\n")
        self.assertEqual(avoid_paper(samples.LONE, ((),), NOWHERE), "avoid\n")
        self.assertEqual(always_paper(samples.LONE, ((),), EVERYWHERE), "always\n")

    def test_the_form(self):
        number = "(0|[1-9][0-9]*)"
        forms = {"some": f"some\n(cut( {number})+\n)", "none": f"none\n(cut( {number})+\n)+", "always": f"always\n(cut( {number})+\n)*",
                 "avoid": f"avoid\n((act {number}|take {number} {number}|lose {number} {number})\n)*"}
        for net, told, claim in test_ways.cases(10, 2, 5):
            for kind in MAKERS:
                paper = made(kind, net, told, claim)
                if paper is not None:
                    self.assertTrue(re.fullmatch(forms[kind], paper), paper)


class Wrong(samples.RaisesCase):

    def test_what_is_no_history(self):
        for maker in MAKERS.values():
            for told in (*test_lattice.NO_HISTORIES, *samples.ODD_VALUES):
                for claim in (NOWHERE, EVERYWHERE):
                    if not is_history(FOUR, told):
                        self.assert_raises(BadStep, 0, maker, FOUR, told, claim)

    def test_more_than_5000_cuts(self):
        for maker in MAKERS.values():
            for net, told in test_lattice.MORE:
                for claim in (NOWHERE, EVERYWHERE, ("state", 0, 0)):
                    self.assert_raises(TooMany, "cuts", maker, net, told, claim)

    def test_nothing_there(self):
        for kind, claim in (("some", NOWHERE), ("none", EVERYWHERE), ("avoid", EVERYWHERE), ("always", NOWHERE)):
            self.assert_raises(NothingThere, kind, MAKERS[kind], APART, BOTH, claim)
            self.assert_raises(NothingThere, kind, MAKERS[kind], APART, ((), ()), claim)


class Large(samples.RaisesCase):

    def test_just_5000_cuts(self):
        for net, told in test_lattice.JUST_5000:
            paper = none_paper(net, told, NOWHERE)
            self.assertEqual(paper, "none\n" + cut_lines(sorted(all_cuts(net, told))))
            self.assertEqual(paper_holds(net, told, NOWHERE, paper), "none")
            self.assertEqual(avoid_paper(net, told, NOWHERE), "avoid\n" + deed_lines(avoiding(net, told, NOWHERE)))

    def test_always_with_many_lines(self):
        net = Net([[name, 5] for name in "abcde"], (), [[process, at, ["do"], at + 1] for process in range(5) for at in range(4)])
        told = tuple(tuple(("act", 4 * process + at) for at in range(4)) for process in range(5))
        last = ("state", 0, 4)
        for process in range(1, 5):
            last = ("and", last, ("state", process, 4))
        paper = always_paper(net, told, last)
        self.assertEqual(paper, "always\n" + cut_lines(sorted(all_cuts(net, told))[:-1]))
        self.assertEqual(paper_holds(net, told, last, paper), "always")

    def test_lists_and_names(self):
        told, claim = samples.listed(BOTH), samples.listed(test_ways.P_AHEAD)
        for kind in ("some", "avoid"):
            self.assertEqual(MAKERS[kind](claim=claim, told=told, net=APART), made(kind, APART, BOTH, test_ways.P_AHEAD))
        one_ahead = samples.listed(test_ways.ONE_AHEAD)
        self.assertEqual(always_paper(claim=one_ahead, told=told, net=APART), "always\ncut 0 0\n")
        self.assertEqual(none_paper(claim=["state", 0, 5], told=told, net=APART), none_paper(APART, BOTH, NOWHERE))
        self.assertEqual((told, claim), (samples.listed(BOTH), samples.listed(test_ways.P_AHEAD)))

    def test_claims_as_chance_has_them(self):
        chance = random.Random(1)
        for net, told in trials.random_histories((trials.PAIR, trials.MIXED), 30, 2):
            for _ in range(10):
                claim = trials.near_claim(net, told, chance)
                kinds = [kind for kind in MAKERS if made(kind, net, told, claim) is not None]
                self.assertEqual(kinds, ["some", "avoid"] if avoiding(net, told, claim) is not None else ["some", "always"])


if __name__ == "__main__":
    unittest.main()
