"""The desk: points [1], [36] and [37]."""

import random
import re
import unittest

import samples
import test_claims
import test_colours
import test_lattice
import trials
from cutweave.claims import claim_text, read_claim
from cutweave.colours import coloured
from cutweave.desk import Desk, replayed_desk
from cutweave.errors import BadClaim, BadLine, TooMany
from cutweave.garbage import floor
from cutweave.histories import history, least_run
from cutweave.lattice import count_cuts
from cutweave.nets import Net
from cutweave.rollback import line as line_of
from cutweave.runs import played
from cutweave.ways import definitely, possibly
from cutweave.worlds import possible

FOUR = samples.FOUR
PAIR = trials.PAIR
NETS = (FOUR, samples.RING, PAIR, trials.MIXED, test_colours.BOTH, samples.LONE)
STEPPER = Net((("p", 2),), (), ((0, 0, ("do",), 0), (0, 1, ("do",), 0)))
HUGE = "9" * 5000
NUMBER = "(0|[1-9][0-9]*)"


class Model:
    """A desk that keeps its happenings, and makes each answer by the functions of the other modules."""

    def __init__(self, net):
        self.net = net
        self.names = [name for name, _ in net.processes]
        self.happenings = []
        self.checkpoints = [(0,) for _ in net.processes]
        self.lines = []

    def log(self):
        return "".join(f"{line}\n" for line in self.lines)

    def deeds(self):
        return coloured(self.net, self.happenings)[0]

    def world(self):
        return played(self.net, self.deeds())[-1]

    def told(self):
        return history(self.net, self.deeds())

    def tell(self, line):
        answer = self.answer(line) if isinstance(line, str) and re.fullmatch(r"[ -$&-~]*", line) else None
        if answer is None:
            raise BadLine(0)
        self.lines.append(line)
        return answer

    def answer(self, line):
        """The answer, None for what is no such line."""
        words = line.split(" ")
        if line in ("can", "world", "cuts", "drop"):
            return getattr(self, f"tell_{line}")()
        if re.fullmatch(f"act {NUMBER}|(take|lose) {NUMBER} {NUMBER}", line):
            return self.happen((words[0], *[int(word) if len(word) < 1000 else 10 ** 1000 for word in words[1:]]))
        if re.fullmatch("begin [a-z]+ [0-3]", line) and words[1] in self.names:
            return self.happen(("begin", self.names.index(words[1]), int(words[2])))
        if re.fullmatch("snapshot [0-3]", line):
            cuts = {s: cut for s, cut, *_ in coloured(self.net, self.happenings)[1]}
            cut = cuts.get(int(words[1]))
            return "no NothingThere" if cut is None else " ".join(["cut", *("-" if many is None else str(many) for many in cut)])
        if re.match("(possibly|definitely) ", line):
            return self.tell_claim(words[0], line.split(" ", 1)[1])
        if re.fullmatch("keep [a-z]+", line) and words[1] in self.names:
            process = self.names.index(words[1])
            number = len(self.told()[process])
            self.checkpoints[process] = tuple(sorted({*self.checkpoints[process], number}))
            return str(number)
        if words[0] == "fail" and len(words) > 1 and all(word in self.names for word in words[1:]):
            failed = [self.names.index(word) for word in words[1:]]
            return self.tell_fail(failed) if failed == sorted(set(failed)) else None
        return None

    def tell_can(self):
        return ", ".join(" ".join(map(str, deed)) for deed in possible(self.net, self.world()))

    def tell_world(self):
        states, _, present = self.world()
        return " ".join(map(str, states)) + ";" + "".join(" |" + "".join(f" {k}:{token}" for k, token in row) for row in present)

    def tell_cuts(self):
        try:
            return str(count_cuts(self.net, self.told()))
        except TooMany:
            return "no TooMany"

    def tell_drop(self):
        least = floor(self.net, self.told(), self.checkpoints)
        kept = [tuple(number for number in row if number == 0 or number >= low) for row, low in zip(self.checkpoints, least)]
        many = sum(map(len, self.checkpoints)) - sum(map(len, kept))
        self.checkpoints = kept
        return str(many)

    def happen(self, happening):
        deeds, world = self.deeds(), self.world()
        if happening[0] == "begin":
            done_so = {s: cut for s, cut, *_ in coloured(self.net, self.happenings)[1]}.get(happening[2])
            if done_so is not None and done_so[happening[1]] is not None:
                return "no BadStep"
        elif happening not in possible(self.net, world):
            return "no BadStep"
        elif len(deeds) == 60:
            return "no TooMany"
        self.happenings.append(happening)
        return "ok" if happening[0] == "begin" else str(len(deeds) + 1)

    def tell_claim(self, word, text):
        try:
            claim = read_claim(self.net, text)
            if word == "definitely":
                return "yes" if definitely(self.net, self.told(), claim) else "no"
            cut = possibly(self.net, self.told(), claim)
            return "never" if cut is None else " ".join(map(str, cut))
        except BadClaim:
            return "no BadClaim"
        except TooMany:
            return "no TooMany"

    def tell_fail(self, failed):
        told = self.told()
        cut = line_of(self.net, told, self.checkpoints, failed)
        self.happenings = list(least_run(self.net, [row[:many] for row, many in zip(told, cut)]))
        self.checkpoints = [tuple(number for number in row if number <= top) for row, top in zip(self.checkpoints, cut)]
        return " ".join(map(str, cut))


def random_line(net, model, chance):
    """A line that is mostly one that the desk knows."""
    name = chance.choice(net.processes)[0]
    kind = chance.randrange(24)
    can = [" ".join(map(str, deed)) for deed in possible(net, model.world())]
    if kind < 13 and can:
        return chance.choice(can)
    if kind == 13:
        return f"begin {name} {chance.randrange(4)}"
    if kind == 14:
        return f"snapshot {chance.randrange(4)}"
    if kind in (15, 16):
        return f"keep {name}"
    if kind == 17 and chance.random() < 0.5:
        return " ".join(["fail", *[name for name, _ in net.processes if chance.random() < 0.5]])
    if kind == 18:
        return chance.choice(("drop", "can", "world"))
    if kind == 19 and net.channels:
        claim = test_claims.random_claim(net, chance, 3) if chance.random() < 0.5 else trials.near_claim(net, model.told(), chance)
        return f"{chance.choice(('possibly', 'definitely'))} {claim_text(net, claim)}"
    if kind == 20:
        return chance.choice((f"act {chance.randrange(20)}", f"take {chance.randrange(20)} {chance.randrange(4)}",
                              f"lose {chance.randrange(5)} {chance.randrange(4)}", "cuts"))
    if kind == 21:
        return chance.choice(("act", "take 0", "fail", "possibly", "begin p", f"begin {name} 4", "snapshot 4", "snapshot", "keep", "",
                              "act 00", "definitely ", "possibly x", "fail x", "keep x", "drop 1", "world ", " can", "Can", "x"))
    return chance.choice(("can", "world", "snapshot 0", f"begin {name} 0"))


def outcome(desk, line):
    try:
        return desk.tell(line)
    except BadLine as error:
        return error.at


def told_desk(net, *lines):
    desk = Desk(net)
    for line in lines:
        desk.tell(line)
    return desk


def view(desk, net):
    """What a desk answers to all that changes nothing; asked of a copy, so that its log stays."""
    copy = replayed_desk(net, desk.log())
    lines = ["can", "world", *[f"snapshot {s}" for s in range(4)]]
    return [copy.tell(line) for line in lines] + [copy.checkpoints]


class Drawn(samples.RaisesCase):

    def test_lines_as_chance_has_them(self):
        seen = {}
        for seed in range(12):
            for net in NETS:
                chance, desk, model = random.Random(seed), Desk(net), Model(net)
                for _ in range(80):
                    line = random_line(net, model, chance)
                    expected = outcome(model, line)
                    self.assertEqual(outcome(desk, line), expected, (model.log(), line))
                    seen.setdefault(line.split(" ")[0], []).append(expected)
                self.assertEqual(desk.log(), model.log())
                self.check_replayed(net, desk, model, chance)
        self.assertGreater(len([1 for cut in seen["fail"] if isinstance(cut, str) and set(cut) - {"0", " "}]), 30)
        self.assertGreater(len([1 for many in seen["drop"] if many not in ("0", 0)]), 10)
        self.assertGreater(seen["begin"].count("no BadStep"), 20)
        self.assertGreater(len([1 for cut in seen["snapshot"] if isinstance(cut, str) and "-" in cut]), 20)
        self.assertGreater(seen["snapshot"].count("no NothingThere"), 20)

    def check_replayed(self, net, desk, model, chance):
        other = replayed_desk(net, desk.log())
        self.assertEqual(other.log(), desk.log())
        for _ in range(25):
            line = random_line(net, model, chance)
            expected = outcome(model, line)
            self.assertEqual(outcome(desk, line), expected)
            self.assertEqual(outcome(other, line), expected)
        self.assertEqual(other.log(), desk.log())

    def test_up_to_60_deeds_and_more(self):
        for net in (PAIR, samples.RING):
            chance, desk, model = random.Random(5), Desk(net), Model(net)
            answers = []
            for _ in range(90):
                can = [" ".join(map(str, deed)) for deed in possible(net, model.world())]
                line = chance.choice([*can, "act 1", "take 1 70"])
                answers.append(outcome(model, line))
                self.assertEqual(outcome(desk, line), answers[-1])
            self.assertIn("60", answers)
            self.assertIn("no TooMany", answers)
            self.assertIn("no BadStep", answers[answers.index("60"):])
            self.assertEqual(desk.tell("can"), model.tell("can"))


class Lines(samples.RaisesCase):

    def test_a_whole_talk(self):
        desk = Desk(PAIR)
        talk = (
            ("can", "act 0, act 2, act 3, act 5"), ("world", "0 0; | |"), ("cuts", "1"), ("act 0", "1"), ("act 3", "2"),
            ("can", "act 0, take 1 0, act 2, act 3, take 4 0, act 5, lose 1 0"), ("world", "0 0; | 0:1 | 0:2"), ("cuts", "4"),
            ("begin q 1", "ok"), ("snapshot 1", "cut - 1"), ("snapshot 0", "no NothingThere"), ("act 3", "3"),
            ("take 1 1", "4"), ("snapshot 1", "cut 1 1"), ("keep p", "2"), ("keep p", "2"), ("keep q", "2"), ("take 4 0", "5"),
            ("possibly count c = 1", "1 0"), ("definitely count c = 1", "yes"), ("possibly count d > 2", "never"),
            ("definitely (count c = 1 and count d = 2)", "yes"), ("possibly (count c = 1 and count d = 2)", "1 2"),
            ("definitely (count c = 1 and count d = 0)", "no"), ("possibly (count c = 1 and count d = 0)", "1 0"),
            ("drop", "0"), ("fail q", "2 2"), ("world", "0 0; | 0:1 | 0:2"), ("snapshot 1", "no NothingThere"),
            ("begin q 1", "ok"), ("lose 1 0", "5"), ("keep p", "3"), ("act 5", "6"), ("keep q", "3"), ("drop", "2"),
            ("fail p q", "3 3"), ("fail p", "3 3"), ("drop", "0"), ("act 6", "no BadStep"), ("possibly x", "no BadClaim"),
        )
        for line, answer in talk:
            self.assertEqual(desk.tell(line), answer, line)
        self.assertEqual(desk.log(), "".join(line + "\n" for line, _ in talk))

    def test_can(self):
        self.assertEqual(Desk(samples.LONE).tell("can"), "")
        self.assertEqual(Desk(STEPPER).tell("can"), "act 0")
        desk = told_desk(FOUR, "act 6", "act 7", "act 8")
        self.assertEqual(desk.tell("can"), "take 15 0, take 16 1, lose 3 0, lose 3 1")

    def test_world(self):
        net = Net((("p", 2), ("q", 1)), (("c", 1, 0, "order"), ("d", 0, 1, "order")), ((0, 0, ("send", 1, 5), 1),))
        self.assertEqual(told_desk(net, "act 0").tell("world"), "1 0; | | 0:5")
        self.assertEqual(Desk(samples.LONE).tell("world"), "0;")
        self.assertEqual(told_desk(FOUR, "act 6", "act 7", "act 0", "act 1").tell("world"), "0 0; | 0:5 1:6 | | | 0:5 1:6")
        self.assertEqual(told_desk(FOUR, *["act 6"] * 12, "take 15 3", "act 17").tell("world"), "0 0; | | | |" + "".join(
            f" {k}:5" for k in range(12) if k != 3))

    def test_deeds(self):
        desk = Desk(FOUR)
        self.assertEqual([desk.tell(line) for line in ("act 6", "act 6", "take 15 1", "lose 3 0", "act 17")], ["1", "2", "3", "4", "5"])
        for line in ("act 17", "act 9", "act 19", "act 99", "take 15 0", "take 15 5", "take 6 0", "take 99 0", "lose 3 0", "lose 3 9", "lose 0 0",
                     "lose 4 0", f"act {HUGE}", f"take 15 {HUGE}", f"take {HUGE} {HUGE}", f"lose 3 {HUGE}", f"lose {HUGE} 0"):
            self.assertEqual(desk.tell(line), "no BadStep", line[:20])
        self.assertEqual(desk.tell("act 6"), "6")
        self.assertEqual(desk.tell("world"), "0 0; | | | | 2:5")

    def test_the_61st_deed(self):
        desk = told_desk(STEPPER, *["act 0"] * 59)
        self.assertEqual(desk.tell("act 0"), "60")
        for line, answer in (("act 0", "no TooMany"), ("act 1", "no BadStep"), ("act 2", "no BadStep"), ("take 0 0", "no BadStep"),
                             ("can", "act 0"), ("cuts", "61"), ("begin p 0", "ok"), ("keep p", "60"), ("snapshot 0", "cut 60")):
            self.assertEqual(desk.tell(line), answer)
        self.assertEqual(desk.tell("world"), "0;")
        desk = told_desk(FOUR, *["act 6"] * 60)
        for line, answer in (("act 6", "no TooMany"), ("take 15 59", "no TooMany"), ("lose 3 59", "no TooMany"), ("take 15 60", "no BadStep"),
                             ("act 17", "no BadStep"), ("fail q", "60 0"), ("act 6", "no TooMany"), ("fail p", "0 0"), ("act 6", "1")):
            self.assertEqual(desk.tell(line), answer)

    def test_begin_and_snapshot(self):
        desk = Desk(test_colours.BOTH)
        for line, answer in (("snapshot 0", "no NothingThere"), ("begin p 0", "ok"), ("begin p 0", "no BadStep"), ("snapshot 0", "cut 0 - -"),
                             ("act 1", "1"), ("begin p 3", "ok"), ("snapshot 3", "cut 1 - -"), ("act 0", "2"), ("act 8", "3"),
                             ("take 5 0", "4"), ("snapshot 0", "cut 0 1 -"), ("snapshot 3", "cut 1 - -"), ("take 4 0", "5"),
                             ("snapshot 3", "cut 1 2 -"), ("begin q 0", "no BadStep"), ("begin r 0", "ok"), ("snapshot 0", "cut 0 1 0"),
                             ("snapshot 1", "no NothingThere"), ("snapshot 2", "no NothingThere")):
            self.assertEqual(desk.tell(line), answer, line)

    def test_a_loss_records_too(self):
        desk = told_desk(PAIR, "begin q 2", "act 3", "lose 1 0")
        self.assertEqual(desk.tell("snapshot 2"), "cut 0 0")

    def test_claims(self):
        desk = told_desk(FOUR, "act 6", "act 8", "take 15 0")
        for line, answer in (("possibly state p = 1", "2 0"), ("definitely state p = 1", "yes"), ("possibly state p = 0", "0 0"),
                             ("possibly (state p = 0 and state q = 1)", "1 1"), ("definitely (state p = 0 and state q = 1)", "no"),
                             ("possibly state p = 2", "never"), ("definitely not state p = 2", "yes"), ("definitely state p = 2", "no"),
                             ("possibly tokens f 5 > 0", "1 0"), ("definitely tokens f 6 > 0", "no")):
            self.assertEqual(desk.tell(line), answer, line)

    def test_what_is_no_claim(self):
        desk = told_desk(FOUR, "act 6")
        for text in ("", " ", "x", "state r = 0", "state p = 00", " state p = 0", "state p = 0 ", "state  p = 0", "state p < 0", "(state p = 0)",
                     "not", "state p = 100", "p = 0", "possibly state p = 0", "not " * 16 + "state p = 0", f"state p = {HUGE}"):
            for word in ("possibly", "definitely"):
                self.assertEqual(desk.tell(f"{word} {text}"), "no BadClaim", text[:20])
        self.assertEqual(desk.tell("possibly " + "not " * 15 + "state p = 1"), "0 0")
        # All signs that a text may have.
        for sign in map(chr, range(32, 127)):
            if sign != "%":
                self.assertEqual(desk.tell(f"possibly {sign}"), "no BadClaim")

    def test_more_than_5000_cuts(self):
        net, told = test_lattice.MORE[0]
        desk = told_desk(net, *[" ".join(map(str, deed)) for deed in least_run(net, told)])
        for line in ("cuts", "possibly state a = 0", "definitely state a = 0"):
            self.assertEqual(desk.tell(line), "no TooMany")
        self.assertEqual(desk.tell("possibly state x = 0"), "no BadClaim")
        net, told = test_lattice.JUST_5000[0]
        desk = told_desk(net, *[" ".join(map(str, deed)) for deed in least_run(net, told)])
        self.assertEqual(desk.tell("cuts"), "5000")

    def test_keep_and_drop(self):
        desk = told_desk(PAIR, "act 2", "keep p", "act 2", "keep p", "act 2", "keep p", "keep q", "act 5", "keep q", "act 5")
        self.assertEqual(desk.tell("drop"), "2")
        self.assertEqual(desk.tell("drop"), "0")
        self.assertEqual(desk.tell("keep q"), "2")
        self.assertEqual(desk.tell("drop"), "1")
        # 0 stays, and what is at the floor.
        self.assertEqual(desk.tell("fail p q"), "3 2")
        self.assertEqual(Desk(PAIR).tell("drop"), "0")
        self.assertEqual(Desk(PAIR).tell("keep q"), "0")

    def test_keep_behind_fail(self):
        desk = told_desk(PAIR, "act 2", "act 2", "keep p", "act 2", "act 2", "keep p")
        self.assertEqual(desk.tell("keep p"), "4")
        self.assertEqual(desk.tell("act 2"), "5")
        self.assertEqual(desk.tell("fail p"), "4 0")
        self.assertEqual(desk.tell("keep p"), "4")
        self.assertEqual(desk.tell("drop"), "1")

    def test_fail(self):
        desk = told_desk(PAIR, "act 5", "act 0", "act 2", "keep p", "act 0", "take 4 0", "keep q", "take 4 1", "act 5", "act 3", "take 1 0")
        # With the second message of p goes what q did behind its checkpoint.
        self.assertEqual(desk.tell("fail p"), "2 2")
        self.assertEqual(desk.tell("world"), "0 0; | |")
        self.assertEqual(desk.tell("possibly count c = 1"), "1 0")
        self.assertEqual(desk.tell("act 0"), "5")
        self.assertEqual(desk.tell("world"), "0 0; | 1:1 |")

    def test_fail_forgets_the_snapshots(self):
        desk = told_desk(PAIR, "begin p 0", "begin p 1", "act 0", "begin q 2", "keep p")
        self.assertEqual(desk.tell("fail q"), "1 0")
        for s in range(4):
            self.assertEqual(desk.tell(f"snapshot {s}"), "no NothingThere")
        # The message that stays bears nothing any more.
        self.assertEqual(desk.tell("take 4 0"), "2")
        self.assertEqual(desk.tell("snapshot 0"), "no NothingThere")
        self.assertEqual(desk.tell("begin p 0"), "ok")
        self.assertEqual(desk.tell("snapshot 0"), "cut 1 -")
        self.assertEqual(desk.tell("begin q 2"), "ok")
        self.assertEqual(desk.tell("snapshot 2"), "cut - 1")

    def test_checkpoints_above_the_line_go(self):
        # q's checkpoint stands on a message that p's failure takes back.
        desk = told_desk(PAIR, "act 0", "take 4 0", "keep q", "fail p")
        self.assertEqual(desk.tell("world"), "0 0; | |")
        self.assertEqual([desk.tell(line) for line in ("act 5", "act 5", "fail q")], ["1", "2", "0 0"])

    def test_names_of_fail(self):
        net = trials.MIXED
        desk = told_desk(net, "act 10", "act 9")
        for line in ("fail", "fail ", "fail b a", "fail a a", "fail a b a", "fail x", "fail a x", "fail a  b", "fail 0", "fail a,b", "fail A",
                     "fail ab", "fail a ", "fail  a", "Fail a"):
            self.assert_raises(BadLine, 0, desk.tell, line)
        self.assertEqual(desk.tell("fail a b"), "0 0 1 1")
        self.assertEqual(desk.tell("fail idle"), "0 0 1 0")
        self.assertEqual(desk.tell("fail a b c idle"), "0 0 0 0")


class NoLines(samples.RaisesCase):

    def test_what_is_no_line(self):
        desk = told_desk(FOUR, "act 6")
        wrong = ("", " ", "x", "Can", "can ", " can", "can 0", "world 0", "world ", "cuts 1", "drop p", "drop 0", "act", "act ", "act x", "act 00",
                 "act 06", "act -1", "act +1", "act 6 0", "act  6", "act 6 ", " act 6", "act 6.", "take 15", "take 15 00",
                 "take 15 0 0", "take", "take  15 0", "take 015 0", "lose 3", "lose 3 0 ", "lose 3 -0", "begin", "begin p", "begin p 4", "begin p 10", f"begin p {HUGE}", "begin p 00",
                 "begin p -1", "begin r 0", "begin 0 0", "begin p 0 0", "begin  p 0", "begin p  0", "begin p x", "begin P 0", "begin c 0", "snapshot",
                 "snapshot 4", "snapshot 00", "snapshot x", "snapshot 0 0", "snapshot ", "snapshot  0", "snapshot 0 ", f"snapshot {HUGE}", "possibly",
                 "definitely", "Possibly state p = 0", " possibly state p = 0", "never", "keep", "keep ", "keep r", "keep 0", "keep p q", "keep  p",
                 "keep p ", "fail", "mark 0", "do 0", "log", "tell can", "acts 6", "act\t6", "can, can", "state p = 0")
        for line in wrong:
            self.assert_raises(BadLine, 0, desk.tell, line)
        self.assertEqual(desk.log(), "act 6\n")

    def test_what_is_no_text_without_line_feeds(self):
        desk = told_desk(FOUR, "act 6")
        for line in (*samples.ODD_VALUES, "can\n", "\n", "\ncan", "can\nworld", "act 6\n", "possibly %", "possibly state p = 0\n", "possibly \u00e9",
                     "definitely \t", "possibly \x7f", "possibly \x1f", "possibly $%&",
                     "act \u0661", "can\r", "\u00e9", "possibly state p = 0%", b"can", ["can"], ("act", 6)):
            self.assert_raises(BadLine, 0, desk.tell, line)
        self.assertEqual(desk.log(), "act 6\n")

    def test_what_raises_or_is_answered_with_no_changes_nothing(self):
        lines = ("act 6", "act 7", "begin p 0", "keep p", "act 6", "take 16 1", "begin q 1", "keep q", "lose 3 0")
        desk = told_desk(FOUR, *lines)
        before = view(desk, FOUR)
        for line in ("act 9", "take 16 1", "lose 0 0", "begin p 0", "snapshot 3", "possibly x", "definitely "):
            self.assertRegex(desk.tell(line), "no [A-Z][A-Za-z]+")
            self.assertEqual(view(desk, FOUR), before)
        log = desk.log()
        for line in ("fail", "fail q p", "fail x", "begin p 4", "act", None, "possibly"):
            self.assert_raises(BadLine, 0, desk.tell, line)
            self.assertEqual((view(desk, FOUR), desk.log()), (before, log))


class Logs(samples.RaisesCase):

    def test_the_log(self):
        desk = Desk(PAIR)
        self.assertEqual(desk.log(), "")
        for line in ("can", "act 0", "act 9", "possibly x", "world", "fail p"):
            desk.tell(line)
            self.assert_raises(BadLine, 0, desk.tell, line.upper())
        self.assertEqual(desk.log(), "can\nact 0\nact 9\npossibly x\nworld\nfail p\n")
        self.assertEqual(desk.log(), desk.log())

    def test_the_empty_log(self):
        desk = replayed_desk(PAIR, "")
        self.assertIsInstance(desk, Desk)
        self.assertEqual((desk.log(), desk.tell("world")), ("", "0 0; | |"))

    def test_the_first_line_that_raises(self):
        for log, at in (("x\n", 0), ("\n", 0), ("can\n\n", 1), ("can\nact 0\nact 00\nact\n", 2), ("can\nact 99\nfail\ncan", 2), ("can", 0),
                        ("can\nact 0", 1), ("can\nx", 1), ("x", 0), ("can\n\ncan\n", 1), ("can\ncan\r\n", 1), ("can\npossibly %\n", 1), ("act 0\nact 0\nact 0\n ", 3)):
            self.assert_raises(BadLine, at, replayed_desk, PAIR, log)

    def test_what_is_no_text(self):
        for log in (*[value for value in samples.ODD_VALUES if value != ""], b"can\n", ["can\n"], ("can\n",)):
            self.assert_raises(BadLine, 0, replayed_desk, PAIR, log)

    def test_it_answers_on_as_the_first_does(self):
        lines = ("act 0", "begin p 0", "keep p", "act 0", "take 4 0", "act 99", "act 3", "take 1 0", "keep p")
        one = told_desk(PAIR, *lines)
        other = replayed_desk(PAIR, one.log())
        for line in ("world", "snapshot 0", "take 4 1", "snapshot 0", "fail q", "world", "drop", "fail p", "world", "cuts", "can"):
            self.assertEqual(one.tell(line), other.tell(line))
        self.assertEqual(one.log(), other.log())

    def test_two_desks_do_not_touch_each_other(self):
        one, other = Desk(PAIR), Desk(PAIR)
        for line in ("act 0", "keep p", "begin p 0"):
            one.tell(line)
        self.assertEqual(other.tell("world"), "0 0; | |")
        self.assertEqual((other.tell("snapshot 0"), other.log()), ("no NothingThere", "world\nsnapshot 0\n"))

    def test_by_name(self):
        desk = Desk(net=PAIR)
        self.assertEqual(desk.tell(line="act 0"), "1")
        self.assertEqual(replayed_desk(log=desk.log(), net=PAIR).tell(line="world"), "0 0; | 0:1 |")


if __name__ == "__main__":
    unittest.main()
