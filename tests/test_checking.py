"""The checking of papers: points [1], [26] and [27]."""

import itertools
import random
import re
import unittest

import samples
import test_lattice
import test_papers
import test_ways
import trials
from cutweave.checking import paper_holds
from cutweave.claims import holds
from cutweave.errors import BadPaper, BadStep
from cutweave.histories import history, is_history
from cutweave.lattice import all_cuts
from cutweave.nets import Net
from cutweave.papers import always_paper, avoid_paper, none_paper, some_paper
from cutweave.runs import played

FOUR = samples.FOUR
APART, BOTH = test_ways.APART, test_ways.BOTH
NOWHERE, EVERYWHERE = test_ways.NOWHERE, test_ways.EVERYWHERE
P_AHEAD, ONE_AHEAD = test_ways.P_AHEAD, test_ways.ONE_AHEAD
HUGE = "9" * 900
NUMBER = "(0|[1-9][0-9]*)"
CUT = re.compile(f"cut( {NUMBER})+")
DEED = re.compile(f"act {NUMBER}|(take|lose) {NUMBER} {NUMBER}")


def first_wrong(paper):
    """The number of the first line that is not of the form, None if all are."""
    *lines, rest = paper.split("\n")
    for at, line in enumerate(lines):
        if at == 0:
            right = line in ("some", "none", "avoid", "always")
        elif lines[0] == "avoid":
            right = DEED.fullmatch(line)
        else:
            right = CUT.fullmatch(line) and (at == 1 or lines[0] != "some" and numbers(lines[at - 1]) < numbers(line))
        if not right:
            return at
    lacks = lines in ([], ["some"])
    return len(lines) if rest != "" or lacks else None


def numbers(line):
    return tuple(map(int, line.split(" ")[1:]))


class Judge:
    """Judges papers about one claim and one history by the document's words, with all cuts by trial."""

    def __init__(self, net, told, claim):
        self.net, self.told, self.claim = net, told, claim
        self.consistent = trials.consistent_rows(net, told)
        self.whole = tuple(map(len, told))
        self.empty = (0,) * len(told)

    def holds_at(self, cut):
        # The deeds in the cut, in some sequence that is a run.
        run = trials.some_run(self.net, [row[:many] for row, many in zip(self.told, cut)], random.Random(1))
        return holds(self.net, self.claim, trials.world_behind(self.net, run))

    def steps(self, cut):
        steps = [tuple(many + (at == process) for at, many in enumerate(cut)) for process in range(len(cut))]
        return [step for step in steps if step in self.consistent]

    def is_right(self, kind, lines):
        if kind == "avoid":
            deeds = tuple((line.split(" ")[0], *numbers(line)) for line in lines)
            return deeds in trials.runs_with(self.net, self.told) and not any(
                holds(self.net, self.claim, world) for world in played(self.net, deeds))
        cuts = list(map(numbers, lines))
        if not all(cut in self.consistent for cut in cuts):
            return False
        if kind == "some":
            return self.holds_at(cuts[0])
        if any(self.holds_at(cut) for cut in cuts):
            return False
        above = [step for cut in cuts for step in self.steps(cut)]
        if kind == "none":
            return self.empty in cuts and all(step in cuts for step in above)
        return self.whole not in cuts and all(cut in cuts or self.holds_at(cut) for cut in [self.empty, *above])

    def verdict(self, paper):
        """The kind, or the number of the line that is told by the error."""
        wrong = first_wrong(paper)
        if wrong is not None:
            return wrong
        kind, *lines = paper.split("\n")[:-1]
        return kind if self.is_right(kind, lines) else 0


def verdict(net, told, claim, paper):
    try:
        return paper_holds(net, told, claim, paper)
    except BadPaper as error:
        return error.at


def spoilt_lines(lines, chance):
    """The lines with one thing done to them."""
    lines = list(lines)
    at = chance.randrange(len(lines))
    other = chance.randrange(len(lines))
    kind = chance.randrange(9)
    if kind == 0:
        del lines[at]
    elif kind == 1:
        lines.insert(at, lines[at])
    elif kind == 2 and at + 1 < len(lines):
        lines[at:at + 2] = lines[at + 1], lines[at]
    elif kind == 3:
        words = lines[at].split(" ")
        words[-1] = str(chance.choice((0, 1, 2, 3, 12)))
        lines[at] = " ".join(words)
    elif kind == 4:
        lines[at], lines[other] = lines[other], lines[at]
    elif kind == 5:
        lines.insert(at, chance.choice(("cut 0 0", "cut 1 0", "cut 1 1", "act 0", "take 1 0", "lose 1 0", "", "none", "cut 0 0 0 0")))
    elif kind == 6:
        lines[0] = chance.choice(("some", "none", "avoid", "always", "cut", "Some"))
    elif kind == 7:
        place = chance.randrange(len(lines[at]) + 1)
        lines[at] = lines[at][:place] + chance.choice((" ", "0", "-", "1", "\n", "x")) + lines[at][place:]
    else:
        lines = lines[:at + 1]
    return lines


class PaperCase(samples.RaisesCase):

    def assert_bad(self, at, net, told, claim, paper):
        self.assert_raises(BadPaper, at, paper_holds, net, told, claim, paper)


class Right(PaperCase):

    def test_papers_right_and_spoilt(self):
        chance = random.Random(5)
        seen = []
        for net, told, claim in test_ways.cases(6, 6, 4, (trials.PAIR, trials.MIXED, samples.RING)):
            judge = Judge(net, told, claim)
            for kind in test_papers.MAKERS:
                paper = test_papers.made(kind, net, told, claim)
                if paper is None:
                    continue
                self.assertEqual(paper_holds(net, told, claim, paper), kind)
                self.assertEqual(judge.verdict(paper), kind)
                for _ in range(12):
                    lines = spoilt_lines(paper.split("\n")[:-1], chance)
                    if chance.random() < 0.3 and lines:
                        lines = spoilt_lines(lines, chance)
                    spoilt = "".join(line + "\n" for line in lines)
                    expected = judge.verdict(spoilt)
                    self.assertEqual(verdict(net, told, claim, spoilt), expected, (told, claim, spoilt))
                    seen.append(expected)
        self.assertGreater(len([one for one in seen if isinstance(one, str)]), 20)
        self.assertGreater(len([one for one in seen if one == 0]), 100)
        self.assertGreater(len([one for one in seen if isinstance(one, int) and one > 0]), 100)

    def test_all_papers_of_few_lines(self):
        # Each paper that cuts, right or not, can make of this history, about claims that hold here and there.
        cuts = list(itertools.product(range(3), range(2)))
        told = ((("act", 0), ("act", 2)), (("act", 1),))
        for claim in (NOWHERE, EVERYWHERE, P_AHEAD, ("state", 0, 1), ("state", 1, 1), ("state", 0, 2)):
            judge = Judge(APART, told, claim)
            for many in range(len(cuts) + 1):
                for some in itertools.combinations(cuts, many):
                    for kind in ("none", "always"):
                        paper = f"{kind}\n" + test_papers.cut_lines(some)
                        self.assertEqual(verdict(APART, told, claim, paper), judge.verdict(paper), (claim, paper))
            for cut in itertools.product(range(4), range(3)):
                paper = "some\n" + test_papers.cut_lines([cut])
                self.assertEqual(verdict(APART, told, claim, paper), judge.verdict(paper))
            for run in itertools.product((("act", 0), ("act", 1), ("act", 2)), repeat=3):
                paper = "avoid\n" + test_papers.deed_lines(run)
                self.assertEqual(verdict(APART, told, claim, paper), judge.verdict(paper))

    def test_other_right_papers_than_those_that_are_made(self):
        ahead = ("or", P_AHEAD, ("state", 1, 1))
        self.assertEqual(paper_holds(APART, BOTH, ahead, "some\ncut 1 1\n"), "some")
        self.assertEqual(paper_holds(APART, BOTH, NOWHERE, "avoid\nact 1\nact 0\n"), "avoid")
        # A cut that can not be reached may stand in an always paper, if its steps up are seen to.
        told = ((("act", 0), ("act", 2)), (("act", 1),))
        claim = ("or", ("and", ("state", 0, 0), ("state", 1, 0)), ("and", ("state", 0, 2), ("state", 1, 1)))
        self.assertEqual(paper_holds(APART, told, claim, "always\n"), "always")
        self.assertEqual(paper_holds(APART, told, claim, "always\ncut 1 1\n"), "always")
        self.assertEqual(paper_holds(APART, told, claim, "always\ncut 0 1\ncut 1 0\ncut 1 1\ncut 2 0\n"), "always")

    def test_histories_of_more_than_5000_cuts(self):
        for net, told in test_lattice.MORE:
            whole = " ".join(str(len(row)) for row in told)
            empty = " ".join("0" for _ in told)
            self.assertEqual(paper_holds(net, told, EVERYWHERE, f"some\ncut {whole}\n"), "some")
            self.assertEqual(paper_holds(net, told, EVERYWHERE, "always\n"), "always")
            self.assert_bad(0, net, told, NOWHERE, f"none\ncut {empty}\n")
            self.assert_bad(0, net, told, NOWHERE, f"always\ncut {empty}\n")
            run = trials.some_run(net, told, random.Random(1))
            self.assertEqual(paper_holds(net, told, NOWHERE, "avoid\n" + test_papers.deed_lines(run)), "avoid")

    def test_lists_and_names(self):
        told, claim = samples.listed(BOTH), samples.listed(P_AHEAD)
        self.assertEqual(paper_holds(paper="some\ncut 1 0\n", claim=claim, told=told, net=APART), "some")
        self.assertEqual(paper_holds(paper="avoid\nact 1\nact 0\n", claim=claim, told=told, net=APART), "avoid")
        self.assertEqual((told, claim), (samples.listed(BOTH), samples.listed(P_AHEAD)))


class Some(PaperCase):

    def test_the_cut(self):
        told = history(FOUR, (("act", 6), ("take", 15, 0)))
        self.assertEqual(paper_holds(FOUR, told, ("count", 3, "=", 1), "some\ncut 1 0\n"), "some")
        for cut in ("0 0", "1 1", "0 1", "2 0", "1 2", "1", "1 0 0", "0", "1" + "0" * 300 + " 0", f"1 {HUGE}"):
            self.assert_bad(0, FOUR, told, ("count", 3, "=", 1), f"some\ncut {cut}\n")
        # Not consistent, whatever the claim.
        self.assert_bad(0, FOUR, told, EVERYWHERE, "some\ncut 0 1\n")

    def test_a_line_too_many(self):
        for line in ("cut 1 1", "cut 0 0", "", "act 0", "some", HUGE):
            self.assert_bad(2, APART, BOTH, EVERYWHERE, f"some\ncut 0 0\n{line}\n")
            self.assert_bad(2, APART, BOTH, EVERYWHERE, f"some\ncut 0 0\n{line or 'x'}")

    def test_lines_that_lack(self):
        self.assert_bad(1, APART, BOTH, EVERYWHERE, "some\n")
        self.assert_bad(0, APART, BOTH, EVERYWHERE, "some")
        self.assert_bad(0, APART, BOTH, EVERYWHERE, "")
        self.assert_bad(1, APART, BOTH, EVERYWHERE, "some\ncut 0 0")


class NoneAndAlways(PaperCase):

    def test_none(self):
        lines = ["cut 0 0", "cut 0 1", "cut 1 0", "cut 1 1"]
        for many in range(5):
            for some in itertools.combinations(lines, many):
                paper = "none\n" + "".join(f"{line}\n" for line in some)
                self.assertEqual(verdict(APART, BOTH, NOWHERE, paper), "none" if many == 4 else 0)
        whole = "none\n" + "".join(f"{line}\n" for line in lines)
        for claim in (P_AHEAD, EVERYWHERE, ("state", 0, 0), ("and", ("state", 0, 1), ("state", 1, 1))):
            self.assert_bad(0, APART, BOTH, claim, whole)

    def test_none_lacks_the_empty_cut(self):
        self.assert_bad(0, APART, BOTH, NOWHERE, "none\n")
        self.assert_bad(0, APART, BOTH, NOWHERE, "none\ncut 0 1\ncut 1 0\ncut 1 1\n")
        self.assert_bad(0, APART, BOTH, ("state", 0, 0), "none\ncut 1 0\ncut 1 1\n")

    def test_none_holds_cuts_of_no_use(self):
        told = history(FOUR, (("act", 6), ("take", 15, 0)))
        right = none_paper(FOUR, told, NOWHERE)
        self.assertEqual(right, "none\ncut 0 0\ncut 1 0\ncut 1 1\n")
        self.assert_bad(0, FOUR, told, NOWHERE, "none\ncut 0 0\ncut 0 1\ncut 1 0\ncut 1 1\n")
        self.assert_bad(0, FOUR, told, NOWHERE, right + "cut 2 0\n")
        self.assert_bad(0, FOUR, told, NOWHERE, right + f"cut 1{HUGE} 0\n")
        self.assert_bad(0, FOUR, told, NOWHERE, "none\ncut 0\ncut 0 0\ncut 1 0\ncut 1 1\n")

    def test_always_holds_the_whole_cut(self):
        self.assert_bad(0, APART, BOTH, NOWHERE, none_paper(APART, BOTH, NOWHERE).replace("none", "always"))
        self.assert_bad(0, APART, BOTH, EVERYWHERE, "always\ncut 1 1\n")
        self.assert_bad(0, APART, BOTH, ("state", 0, 0), "always\ncut 1 1\n")
        self.assert_bad(0, APART, ((), ()), NOWHERE, "always\ncut 0 0\n")
        self.assert_bad(0, APART, ((), ()), NOWHERE, "always\n")
        self.assertEqual(paper_holds(APART, ((), ()), EVERYWHERE, "always\n"), "always")

    def test_always_lacks_a_step_up(self):
        told = ((("act", 0), ("act", 2)), (("act", 1),))
        whole_alone = ("and", ("state", 0, 2), ("state", 1, 1))
        lines = always_paper(APART, told, whole_alone).split("\n")[1:-1]
        self.assertEqual(lines, ["cut 0 0", "cut 0 1", "cut 1 0", "cut 1 1", "cut 2 0"])
        for many in range(5):
            for some in itertools.combinations(lines, many):
                self.assert_bad(0, APART, told, whole_alone, "always\n" + "".join(f"{line}\n" for line in some))

    def test_always_lacks_the_empty_cut(self):
        self.assert_bad(0, APART, BOTH, ONE_AHEAD, "always\n")
        self.assertEqual(paper_holds(APART, BOTH, ONE_AHEAD, "always\ncut 0 0\n"), "always")

    def test_always_holds_a_cut_at_which_the_claim_holds(self):
        self.assert_bad(0, APART, BOTH, ONE_AHEAD, "always\ncut 0 0\ncut 0 1\n")
        self.assert_bad(0, APART, BOTH, EVERYWHERE, "always\ncut 0 0\n")

    def test_lines_that_are_not_rising(self):
        for kind in ("none", "always"):
            self.assert_bad(2, APART, BOTH, NOWHERE, f"{kind}\ncut 0 1\ncut 0 0\n")
            self.assert_bad(2, APART, BOTH, NOWHERE, f"{kind}\ncut 0 1\ncut 0 1\n")
            self.assert_bad(3, APART, BOTH, NOWHERE, f"{kind}\ncut 0 1\ncut 1 0\ncut 0 2\n")
            self.assert_bad(2, APART, BOTH, NOWHERE, f"{kind}\ncut 10 0\ncut 9 0\n")
            self.assert_bad(2, APART, BOTH, NOWHERE, f"{kind}\ncut 1 0\ncut 1\n")
            self.assert_bad(2, APART, BOTH, NOWHERE, f"{kind}\ncut 0 1{HUGE}\ncut 0 {HUGE}\n")
            self.assert_bad(2, APART, BOTH, NOWHERE, f"{kind}\ncut 0 {HUGE}\ncut 0 {HUGE}\n")
            self.assert_bad(2, APART, BOTH, NOWHERE, f"{kind}\ncut 0 {HUGE}1\ncut 0 {HUGE}0\n")

    def test_lines_that_are_rising_and_not_right(self):
        for kind in ("none", "always"):
            self.assert_bad(0, APART, BOTH, NOWHERE, f"{kind}\ncut 9 0\ncut 10 0\n")
            self.assert_bad(0, APART, BOTH, NOWHERE, f"{kind}\ncut 1\ncut 1 0\n")
            self.assert_bad(0, APART, BOTH, NOWHERE, f"{kind}\ncut 0 {HUGE}\ncut 0 1{HUGE}\n")
            self.assert_bad(0, APART, BOTH, NOWHERE, f"{kind}\ncut 0 {HUGE}0\ncut 0 {HUGE}1\n")
            self.assert_bad(0, APART, BOTH, NOWHERE, f"{kind}\ncut 0 {'7' * 5000}\ncut 0 {'7' * 5001}\n")


class Avoid(PaperCase):

    def test_runs(self):
        told = history(FOUR, (("act", 6), ("act", 7), ("lose", 3, 0), ("take", 16, 1)))
        deeds = ["act 6", "act 7", "lose 3 0", "take 16 1"]
        runs = [list(trials.owners(FOUR, run)) for run in trials.runs_with(FOUR, told)]
        for row in itertools.permutations(deeds):
            told_owners = [0 if line.startswith("act") else 1 for line in row]
            keeps_rows = [line for line in row if line.startswith("act")] + [line for line in row if not line.startswith("act")]
            is_run = keeps_rows == deeds and told_owners in runs
            paper = "avoid\n" + "".join(f"{line}\n" for line in row)
            self.assertEqual(verdict(FOUR, told, NOWHERE, paper), "avoid" if is_run else 0)

    def test_an_event_less_or_more(self):
        told = history(FOUR, (("act", 6), ("act", 6), ("take", 15, 1)))
        self.assertEqual(paper_holds(FOUR, told, NOWHERE, "avoid\nact 6\nact 6\ntake 15 1\n"), "avoid")
        for lines in ("", "act 6\n", "act 6\nact 6\n", "act 6\nact 6\ntake 15 0\n", "act 6\nact 6\nact 6\ntake 15 1\n",
                      "act 6\nact 6\ntake 15 1\ntake 15 0\n", "act 6\nact 6\nlose 3 1\n", "act 6\ntake 15 1\nact 6\n",
                      "act 6\nact 6\ntake 15 1\nact 99\n", f"act 6\nact 6\ntake 15 {HUGE}\n", f"act {HUGE}\nact 6\ntake 15 1\n",
                      "act 6\nact 6\ntake 6 1\n", "act 6\nact 6\ntake 15 1\n" + "act 8\n" * 70):
            self.assert_bad(0, FOUR, told, NOWHERE, "avoid\n" + lines)

    def test_the_claim_holds_on_the_way(self):
        self.assertEqual(paper_holds(APART, BOTH, P_AHEAD, "avoid\nact 1\nact 0\n"), "avoid")
        self.assert_bad(0, APART, BOTH, P_AHEAD, "avoid\nact 0\nact 1\n")
        self.assert_bad(0, APART, BOTH, ("and", ("state", 0, 0), ("state", 1, 0)), "avoid\nact 1\nact 0\n")
        self.assert_bad(0, APART, BOTH, ("and", ("state", 0, 1), ("state", 1, 1)), "avoid\nact 1\nact 0\n")

    def test_60_deeds(self):
        net = Net((("p", 1),), (), ((0, 0, ("do",), 0),))
        self.assertEqual(paper_holds(net, ((("act", 0),) * 60,), NOWHERE, "avoid\n" + "act 0\n" * 60), "avoid")
        self.assert_bad(0, net, ((("act", 0),) * 60,), NOWHERE, "avoid\n" + "act 0\n" * 61)

    def test_of_another_form(self):
        for line in ("act", "act 0 0", "take 0", "take 0 0 0", "lose 0", "do 0", "cut 0 0", "act -1", "act 00", "take 0 01", "act +1",
                     " act 0", "act 0 ", "act  0", "Act 0", "act x", "", "avoid", "take", "lose 0 ", "act 1_0", "begin 0 0"):
            self.assert_bad(1, APART, BOTH, NOWHERE, f"avoid\n{line}\n")
            self.assert_bad(3, APART, BOTH, NOWHERE, f"avoid\nact 0\nact 1\n{line}\nact 0\n")

    def test_without_events(self):
        self.assertEqual(paper_holds(APART, ((), ()), NOWHERE, "avoid\n"), "avoid")
        self.assert_bad(0, APART, ((), ()), EVERYWHERE, "avoid\n")
        self.assert_bad(0, APART, BOTH, NOWHERE, "avoid\n")


class Form(PaperCase):

    def test_the_first_line(self):
        for head in ("", " some", "some ", "Some", "sum", "cut 0 0", "somes", "none some", "avoid 0", "always\r", "0"):
            for rest in ("", "cut 0 0\n", "act 0\n", "act 0"):
                self.assert_bad(0, APART, BOTH, EVERYWHERE, f"{head}\n{rest}")

    def test_lines_of_cuts(self):
        wrong = ("cut", "cut ", "cut 0 ", "cut  0 0", " cut 0 0", "cut 00 0", "cut 0 01", "cut -1 0", "cut +1 0", "cut 0  0", "cut 0,0",
                 "Cut 0 0", "cuts 0 0", "0 0", "", "act 0", "cut 0 -", "cut 0 0x", "cut 0 0\r", "cut 1_0 0", "cut \u0661 0", "cut 0\t0")
        for line in wrong:
            for kind in ("some", "none", "always"):
                self.assert_bad(1, APART, BOTH, EVERYWHERE, f"{kind}\n{line}\n")
            for kind in ("none", "always"):
                self.assert_bad(2, APART, BOTH, NOWHERE, f"{kind}\ncut 0 0\n{line}\ncut 1 1\n")

    def test_a_line_feed_that_lacks(self):
        for kind in ("some", "none", "avoid", "always"):
            self.assert_bad(0, APART, BOTH, EVERYWHERE, kind)
        for kind, maker in test_papers.MAKERS.items():
            claim = EVERYWHERE if kind in ("some", "always") else NOWHERE
            paper = maker(APART, BOTH, claim)
            self.assert_bad(paper.count("\n") - 1, APART, BOTH, claim, paper[:-1])
            self.assert_bad(paper.count("\n"), APART, BOTH, claim, paper + "\n")

    def test_the_first_line_that_is_wrong_counts(self):
        self.assert_bad(1, APART, BOTH, NOWHERE, "none\ncut x\ncut 0 00\ncut")
        self.assert_bad(2, APART, BOTH, NOWHERE, "none\ncut 9 9\ncut 0 00\ncut")
        self.assert_bad(3, APART, BOTH, NOWHERE, "none\ncut 9 9\ncut 9 10\ncut")
        self.assert_bad(0, APART, BOTH, NOWHERE, "nones\ncut x\n")

    def test_cuts_with_too_few_or_too_many_numbers(self):
        for kind in ("some", "none", "always"):
            for cut in ("0", "0 0 0", "0 0 0 0 0 0 0 0", "1", "0 " * 500 + "0"):
                self.assert_bad(0, APART, BOTH, NOWHERE, f"{kind}\ncut {cut}\n")

    def test_another_kind_at_the_head(self):
        for net, told, claim in test_ways.cases(8, 2, 4):
            for kind in test_papers.MAKERS:
                paper = test_papers.made(kind, net, told, claim)
                for other in test_papers.MAKERS:
                    if paper is not None and other != kind:
                        changed = paper.replace(kind, other, 1)
                        self.assertEqual(verdict(net, told, claim, changed), Judge(net, told, claim).verdict(changed))

    def test_what_is_no_text(self):
        for value in samples.ODD_VALUES:
            self.assert_bad(0, APART, BOTH, EVERYWHERE, value)
        for value in ("\n", "\n\n", "%", "some\r\ncut 0 0\r\n", "\u00e9\n", b"some\ncut 0 0\n", ["some\ncut 0 0\n"]):
            self.assert_bad(0, APART, BOTH, EVERYWHERE, value)


class Histories(PaperCase):

    def test_what_is_no_history(self):
        for told in (*test_lattice.NO_HISTORIES, *samples.ODD_VALUES):
            if not is_history(FOUR, told):
                for paper in ("some\ncut 0 0\n", "always\n", "", "x\n", None, 0, samples.DEEP, "some\n"):
                    self.assert_raises(BadStep, 0, paper_holds, FOUR, told, EVERYWHERE, paper)

    def test_papers_of_another_history(self):
        told = history(FOUR, (("act", 6), ("take", 15, 0)))
        other = history(FOUR, (("act", 6), ("act", 7), ("take", 15, 0)))
        for maker, claim in ((none_paper, NOWHERE), (avoid_paper, NOWHERE)):
            self.assert_bad(0, FOUR, told, claim, maker(FOUR, other, claim))
            self.assert_bad(0, FOUR, other, claim, maker(FOUR, told, claim))
        self.assert_bad(0, FOUR, told, ("count", 3, ">", 1), some_paper(FOUR, other, ("count", 3, ">", 1)))

    def test_what_is_taken_is_true(self):
        chance = random.Random(9)
        for net, told, claim in test_ways.cases(6, 3, 3, (trials.PAIR, samples.RING)):
            cuts = all_cuts(net, told)
            worlds = [Judge(net, told, claim).holds_at(cut) for cut in cuts]
            ways = [any(holds(net, claim, world) for world in played(net, run)) for run in trials.runs_with(net, told)]
            truth = {"some": any(worlds), "none": not any(worlds), "avoid": not all(ways), "always": all(ways)}
            for kind in truth:
                for _ in range(20):
                    rows = sorted(chance.sample(cuts, chance.randrange(len(cuts) + 1)))
                    lines = test_papers.cut_lines(rows)
                    if kind == "avoid":
                        lines = test_papers.deed_lines(chance.choice(trials.runs_with(net, told)))
                    found = verdict(net, told, claim, f"{kind}\n{lines}")
                    self.assertTrue(truth.get(found, True), (told, claim, kind, lines))


if __name__ == "__main__":
    unittest.main()
