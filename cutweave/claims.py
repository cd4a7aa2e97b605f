"""Claims about worlds, and their texts."""

from cutweave.errors import BadClaim
from cutweave.nets import place
from cutweave.words import is_numeral

MOST_DEPTH = 16
JOINTS = ("and", "or")
SIGNS = ("<", "=", ">")


def claim_text(net, claim):
    """The text of the claim."""
    word = claim[0]
    if word in JOINTS:
        return f"({claim_text(net, claim[1])} {word} {claim_text(net, claim[2])})"
    if word == "not":
        return f"not {claim_text(net, claim[1])}"
    if word == "state":
        return f"state {net.processes[claim[1]][0]} = {claim[2]}"
    name = net.channels[claim[1]][0]
    if word == "count":
        return f"count {name} {claim[2]} {claim[3]}"
    return f"tokens {name} {claim[2]} {claim[3]} {claim[4]}"


def holds(net, claim, world):
    """Whether the claim holds in the world."""
    word = claim[0]
    if word == "not":
        return not holds(net, claim[1], world)
    if word == "and":
        return holds(net, claim[1], world) and holds(net, claim[2], world)
    if word == "or":
        return holds(net, claim[1], world) or holds(net, claim[2], world)
    if word == "state":
        return world[0][claim[1]] == claim[2]
    tokens = [token for _, token in world[2][claim[1]]]
    many = len(tokens) if word == "count" else tokens.count(claim[2])
    return stands(many, claim[-2], claim[-1])


def stands(many, sign, number):
    """Whether the one number stands to the other as the sign tells."""
    if sign == "<":
        return many < number
    if sign == ">":
        return many > number
    return many == number


class Reader:
    """Reads a claim from its words, one behind the other; BadClaim where they are not those of one."""

    def __init__(self, net, words):
        self.net = net
        self.words = words
        self.at = 0

    def next_word(self):
        """The next word."""
        if self.at == len(self.words):
            raise BadClaim(0)
        self.at += 1
        return self.words[self.at - 1]

    def one_of(self, words):
        """The next word, which must be one of these."""
        word = self.next_word()
        if word not in words:
            raise BadClaim(0)
        return word

    def named(self, rows):
        """The number of the row whose name is the next word."""
        at = place(rows, self.next_word())
        if at is None:
            raise BadClaim(0)
        return at

    def number(self, most):
        """The number that the next word tells, of at most so many digits and without noughts ahead."""
        word = self.next_word()
        if len(word) > most or not is_numeral(word):
            raise BadClaim(0)
        return int(word)

    def claim(self, depth):
        """The claim that the next words tell, which is so deep within the whole one."""
        if depth > MOST_DEPTH:
            raise BadClaim(0)
        word = self.one_of(("state", "count", "tokens", "not", "("))
        if word == "not":
            return word, self.claim(depth + 1)
        if word == "(":
            return self.joint(depth)
        if word == "state":
            process = self.named(self.net.processes)
            self.one_of(("=",))
            return word, process, self.number(2)
        channel = self.named(self.net.channels)
        token = (self.number(1),) if word == "tokens" else ()
        sign = self.one_of(SIGNS)
        return (word, channel, *token, sign, self.number(2))

    def joint(self, depth):
        """The rest of two claims in brackets that are joined by a word."""
        one = self.claim(depth + 1)
        word = self.one_of(JOINTS)
        other = self.claim(depth + 1)
        self.one_of((")",))
        return word, one, other


def read_claim(net, text):
    """The claim with this text."""
    if not isinstance(text, str):
        raise BadClaim(0)
    # With one blank more at each bracket, the words of a claim's text are parted by one blank throughout.
    reader = Reader(net, text.replace("(", "( ").replace(")", " )").split(" "))
    claim = reader.claim(1)
    if reader.at != len(reader.words):
        raise BadClaim(0)
    return claim
