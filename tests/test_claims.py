"""Claims: points [1] and [24]."""

import itertools
import random
import unittest

import samples
import trials
from cutweave.claims import claim_text, holds, read_claim
from cutweave.errors import BadClaim
from cutweave.nets import Net

FOUR = samples.FOUR
# Names of processes and channels that are alike, and words of claims among them.
ALIKE = Net(
    (("p", 2), ("pp", 8), ("and", 2), ("not", 1), ("state", 3)),
    (("p", 0, 1, "loose"), ("pp", 1, 0, "order"), ("or", 0, 2, "loose"), ("count", 3, 4, "loose"), ("tokens", 4, 3, "order"),
     ("not", 2, 1, "order lossy")),
    (),
)
LEAF = ("state", 0, 1)
# q is in state 2; channel c has nothing, d two of token 5 and one of 6, f ten of token 0.
WORLD = ((1, 2), (0, 3, 0, 10), ((), ((0, 5), (1, 6), (2, 5)), (), tuple((k, 0) for k in range(10))))


def nots(many, claim=LEAF):
    for _ in range(many):
        claim = ("not", claim)
    return claim


def in_a_row(many, word="and", left=True):
    """A claim that is one deeper than many, by this word."""
    claim = LEAF
    for _ in range(many):
        claim = (word, claim, LEAF) if left else (word, LEAF, claim)
    return claim


def random_claim(net, chance, depth):
    kind = chance.choice(("state", "count", "tokens")) if depth == 1 else chance.choice(("state", "count", "not", "and", "or"))
    sign, number = chance.choice("<=>"), chance.choice((0, 1, 2, 3, 9, 10, 42, 99))
    if kind == "state":
        return kind, chance.randrange(len(net.processes)), number
    if kind == "count":
        return kind, chance.randrange(len(net.channels)), sign, number
    if kind == "tokens":
        return kind, chance.randrange(len(net.channels)), chance.randrange(10), sign, number
    parts = [random_claim(net, chance, chance.randrange(1, depth)) for _ in range(1 if kind == "not" else 2)]
    return (kind, *parts)


class ClaimCase(samples.RaisesCase):

    def assert_no_claim(self, net, text):
        self.assert_raises(BadClaim, 0, read_claim, net, text)

    def assert_both_ways(self, net, claim, text):
        self.assertEqual(claim_text(net, claim), text)
        self.assertEqual(claim_text(net, samples.listed(claim)), text)
        self.assertEqual(read_claim(net, text), claim)
        self.assertTrue(samples.is_tuple_throughout(read_claim(net, text)))


class Texts(ClaimCase):

    def test_states(self):
        for process, name in enumerate(("p", "pp", "and", "not", "state")):
            for number in (0, 1, 7, 8, 10, 99):
                self.assert_both_ways(ALIKE, ("state", process, number), f"state {name} = {number}")

    def test_counts(self):
        for channel, name in enumerate(("p", "pp", "or", "count", "tokens", "not")):
            for sign, number in itertools.product("<=>", (0, 1, 9, 10, 60, 99)):
                self.assert_both_ways(ALIKE, ("count", channel, sign, number), f"count {name} {sign} {number}")

    def test_tokens(self):
        for channel, name in enumerate(("p", "pp", "or", "count", "tokens", "not")):
            for sign, token, number in itertools.product("<=>", (0, 5, 9), (0, 9, 10, 99)):
                self.assert_both_ways(ALIKE, ("tokens", channel, token, sign, number), f"tokens {name} {token} {sign} {number}")

    def test_and_or_not(self):
        one, other = ("state", 1, 2), ("count", 2, "<", 3)
        self.assert_both_ways(ALIKE, ("and", one, other), "(state pp = 2 and count or < 3)")
        self.assert_both_ways(ALIKE, ("or", one, other), "(state pp = 2 or count or < 3)")
        self.assert_both_ways(ALIKE, ("not", one), "not state pp = 2")
        self.assert_both_ways(ALIKE, ("not", ("not", ("state", 3, 0))), "not not state not = 0")
        self.assert_both_ways(ALIKE, ("not", ("and", one, other)), "not (state pp = 2 and count or < 3)")
        self.assert_both_ways(ALIKE, ("and", ("not", one), other), "(not state pp = 2 and count or < 3)")
        self.assert_both_ways(ALIKE, ("or", ("and", one, other), ("or", other, one)),
                              "((state pp = 2 and count or < 3) or (count or < 3 or state pp = 2))")
        self.assert_both_ways(ALIKE, ("and", one, ("not", ("or", other, ("not", one)))),
                              "(state pp = 2 and not (count or < 3 or not state pp = 2))")

    def test_random_claims(self):
        for seed in range(400):
            net = (ALIKE, FOUR, samples.RING)[seed % 3]
            claim = random_claim(net, random.Random(seed), 6)
            self.assert_both_ways(net, claim, claim_text(net, claim))

    def test_by_name(self):
        self.assertEqual(claim_text(claim=["state", 1, 2], net=ALIKE), "state pp = 2")
        self.assertEqual(read_claim(text="state pp = 2", net=ALIKE), ("state", 1, 2))


class Depth(ClaimCase):

    def test_16_deep(self):
        for claim in (nots(15), in_a_row(15), in_a_row(15, "or"), in_a_row(15, "and", False), nots(7, in_a_row(8)),
                      ("and", LEAF, nots(14)), ("or", nots(14), LEAF)):
            self.assert_both_ways(FOUR, claim, claim_text(FOUR, claim))

    def test_17_deep(self):
        for claim in (nots(16), in_a_row(16), in_a_row(16, "or"), in_a_row(16, "and", False), nots(8, in_a_row(8)),
                      ("and", LEAF, nots(15)), ("or", nots(15), LEAF), ("or", nots(15), nots(15))):
            self.assert_no_claim(FOUR, claim_text(FOUR, claim))

    def test_16_deep_and_full(self):
        claim = LEAF
        for _ in range(12):
            claim = ("and", claim, claim)
        claim = nots(3, claim)
        self.assert_both_ways(FOUR, claim, claim_text(FOUR, claim))
        self.assertIs(holds(FOUR, claim, WORLD), False)

    def test_very_deep(self):
        self.assert_no_claim(FOUR, "not " * 100000 + "state p = 1")
        self.assert_no_claim(FOUR, "(" * 100000 + "state p = 1")
        self.assert_no_claim(FOUR, "(" * 100000 + "state p = 1" + " and state p = 1)" * 100000)

    def test_claims_that_are_somewhat_deeper_have_a_text_and_hold(self):
        self.assertEqual(claim_text(FOUR, nots(20)), "not " * 20 + "state p = 1")
        self.assertIs(holds(FOUR, nots(20), WORLD), True)


class NoClaims(ClaimCase):

    def test_blanks(self):
        for text in (" state p = 1", "state p = 1 ", "state  p = 1", "state p =1", "state p= 1", "statep = 1", "state p = 1 1",
                     "notstate p = 1", "not  state p = 1", "not", "not ", "( state p = 1 and state p = 1)",
                     "(state p = 1 and state p = 1 )", "(state p = 1  and state p = 1)", "(state p = 1and state p = 1)",
                     "(state p = 1 andstate p = 1)", " (state p = 1 and state p = 1)", "(state p = 1 and state p = 1) ",
                     "count c<1", "count c < 1 ", "tokens c 5< 1", "tokens c  5 < 1", " ", "  "):
            self.assert_no_claim(FOUR, text)

    def test_brackets(self):
        for text in ("(state p = 1)", "state p = 1)", "(state p = 1", "()", "(", ")", "(state p = 1 and state p = 1",
                     "state p = 1 and state p = 1)", "state p = 1 and state p = 1", "((state p = 1 and state p = 1))",
                     "(state p = 1 and state p = 1))", "(state p = 1 and state p = 1 and state p = 1)", "not (state p = 1)",
                     "(state p = 1 and)", "(and state p = 1)", "(state p = 1 state p = 1)", "not(state p = 1 or state p = 1)",
                     "[state p = 1 and state p = 1]", "(state p = 1 and state p = 1)(", "state (p) = 1", "state p = (1)",
                     "(state p = 1 and state p = 1)state p = 1"):
            self.assert_no_claim(FOUR, text)

    def test_signs_and_words(self):
        for text in ("state p < 1", "state p > 1", "state p == 1", "state p is 1", "state p 1", "state p =", "state p",
                     "state", "state = 1", "count c <= 1", "count c >= 1", "count c == 1", "count c ! 1", "count c 1", "count c <",
                     "count c", "tokens c < 1", "tokens c 5 1", "tokens c 5 <", "tokens c 5", "tokens 5 < 1", "count c 5 < 1",
                     "states p = 1", "counts c < 1", "token c 5 < 1", "(state p = 1 xor state p = 1)", "(state p = 1 not state p = 1)",
                     "(state p = 1 & state p = 1)", "no state p = 1", "true", "1", "p = 1", "count c ( 1", "count c <> 1"):
            self.assert_no_claim(FOUR, text)

    def test_numbers(self):
        for number in ("00", "01", "001", "099", "100", "101", "999", "1000", "9" * 5000, "0" * 5000, "-1", "+1", "1.", "1.0", "x",
                       "1_0", "", "0x1", "\u0663", "\u00b2", "\uff11", "1\n", "None"):
            self.assert_no_claim(FOUR, f"state p = {number}")
            self.assert_no_claim(FOUR, f"count c < {number}")
            self.assert_no_claim(FOUR, f"tokens c 5 < {number}")
        for token in ("00", "05", "10", "11", "99", "-1", "+5", "x", "", "\u0663", "5" * 5000):
            self.assert_no_claim(FOUR, f"tokens c {token} < 1")

    def test_names(self):
        for name in ("c", "q2", "P", "pp", "", "0", "r", "p q", "state"):
            self.assert_no_claim(FOUR, f"state {name} = 1")
        for name in ("p", "q", "C", "cc", "", "0", "g", "c d", "count"):
            self.assert_no_claim(FOUR, f"count {name} = 1")
            self.assert_no_claim(FOUR, f"tokens {name} 5 = 1")
        self.assert_no_claim(samples.LONE, "count lone = 0")
        self.assertEqual(read_claim(samples.LONE, "state lone = 0"), ("state", 0, 0))

    def test_case(self):
        for text in ("State p = 1", "STATE p = 1", "Not state p = 1", "Count c < 1", "Tokens c 5 < 1",
                     "(state p = 1 And state p = 1)", "(state p = 1 OR state p = 1)"):
            self.assert_no_claim(FOUR, text)

    def test_line_feeds_and_other_white_space(self):
        for text in ("state p = 1", "not state p = 1", "(state p = 1 and count c < 1)"):
            for white in ("\n", "\r", "\t", "\u00a0", "\u3000", "\x00"):
                self.assert_no_claim(FOUR, text + white)
                self.assert_no_claim(FOUR, white + text)
                self.assert_no_claim(FOUR, text.replace(" ", white, 1))

    def test_nothing_and_what_is_no_string(self):
        for text in samples.ODD_VALUES:
            self.assert_no_claim(FOUR, text)
        self.assert_no_claim(FOUR, ("state", 0, 1))
        self.assert_no_claim(FOUR, ["state p = 1"])

    def test_texts_near_those_of_claims(self):
        signs = " ()<=>0159andortsepc\n"
        taken = 0
        for seed in range(1500):
            chance = random.Random(seed)
            net = (ALIKE, FOUR)[seed % 2]
            text = claim_text(net, random_claim(net, chance, 4))
            at = chance.randrange(len(text))
            near = text[:at] + chance.choice(("", chance.choice(signs), chance.choice(signs) + text[at])) + text[at + 1:]
            try:
                claim = read_claim(net, near)
            except BadClaim as error:
                self.assertEqual(error.at, 0)
                self.assertNotEqual(near, text)
            else:
                self.assertEqual(claim_text(net, claim), near)
                taken += near != text
        self.assertGreater(taken, 50)


class Holds(ClaimCase):

    def assert_holds(self, claim, expected):
        self.assertIs(holds(FOUR, claim, WORLD), expected)
        self.assertIs(holds(FOUR, samples.listed(claim), samples.listed(WORLD)), expected)

    def test_states(self):
        for process in range(2):
            for number in (0, 1, 2, 3, 8, 99):
                self.assert_holds(("state", process, number), number == process + 1)

    def test_counts(self):
        for channel, many in enumerate((0, 3, 0, 10)):
            for number in (0, 1, 2, 3, 4, 9, 10, 11, 99):
                self.assert_holds(("count", channel, "<", number), many < number)
                self.assert_holds(("count", channel, "=", number), many == number)
                self.assert_holds(("count", channel, ">", number), many > number)

    def test_tokens(self):
        for channel, token in itertools.product(range(4), range(10)):
            many = [told for _, told in WORLD[2][channel]].count(token)
            for number in (0, 1, 2, 3, 9, 10, 11, 99):
                self.assert_holds(("tokens", channel, token, "<", number), many < number)
                self.assert_holds(("tokens", channel, token, "=", number), many == number)
                self.assert_holds(("tokens", channel, token, ">", number), many > number)

    def test_messages_that_are_gone_do_not_count(self):
        world = trials.world_behind(FOUR, (("act", 2), ("act", 3), ("take", 11, 0)))
        self.assertIs(holds(FOUR, ("count", 1, "=", 1), world), True)
        self.assertIs(holds(FOUR, ("tokens", 1, 5, "=", 0), world), True)
        self.assertIs(holds(FOUR, ("tokens", 1, 6, "=", 1), world), True)

    def test_and_or_not(self):
        leaves = {True: ("state", 0, 1), False: ("state", 0, 0)}
        for one, other in itertools.product((True, False), repeat=2):
            self.assert_holds(("and", leaves[one], leaves[other]), one and other)
            self.assert_holds(("or", leaves[one], leaves[other]), one or other)
            self.assert_holds(("not", ("and", leaves[one], ("not", leaves[other]))), not (one and not other))
        self.assert_holds(("not", leaves[True]), False)
        self.assert_holds(("not", leaves[False]), True)

    def test_depth_16(self):
        self.assert_holds(nots(15), False)
        self.assert_holds(nots(14), True)
        for word in ("and", "or"):
            for left in (True, False):
                self.assert_holds(in_a_row(15, word, left), True)

    def test_random_claims(self):
        for seed in range(300):
            chance = random.Random(seed)
            claim = random_claim(FOUR, chance, 5)
            world = trials.world_behind(FOUR, trials.random_run(FOUR, chance, 20))
            self.assertIs(holds(FOUR, claim, world), self.by_words(claim, world))

    def by_words(self, claim, world):
        """Whether it holds, told by what Python makes of the words."""
        kind, *rest = claim
        if kind in ("and", "or", "not"):
            parts = [self.by_words(part, world) for part in rest]
            return {"and": all(parts), "or": any(parts), "not": not parts[0]}[kind]
        if kind == "state":
            return world[0][rest[0]] == rest[1]
        here = [token for _, token in world[2][rest[0]] if kind == "count" or token == rest[1]]
        return {"<": len(here) < rest[-1], "=": len(here) == rest[-1], ">": len(here) > rest[-1]}[rest[-2]]

    def test_names_and_arguments_stay(self):
        claim, world = ["not", ["count", 0, "<", 1]], samples.listed(WORLD)
        self.assertIs(holds(world=world, claim=claim, net=FOUR), False)
        self.assertEqual(claim_text(FOUR, claim), "not count c < 1")
        self.assertEqual((claim, world), (["not", ["count", 0, "<", 1]], samples.listed(WORLD)))


if __name__ == "__main__":
    unittest.main()
