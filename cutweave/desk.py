"""The desk: a run that grows line by line, and answers what is asked of it."""

from cutweave.claims import read_claim
from cutweave.colours import Colouring
from cutweave.cuts import run_through
from cutweave.errors import BadClaim, BadLine, BadStep, NothingThere, TooMany
from cutweave.garbage import droppable
from cutweave.histories import rows_of
from cutweave.lattice import count_cuts
from cutweave.nets import place
from cutweave.records import MANY_SNAPSHOTS
from cutweave.rollback import standing
from cutweave.tales import Tale
from cutweave.ways import definitely, possibly
from cutweave.words import deed_told, is_deed_line, is_numeral, joined_words, number_told
from cutweave.worlds import can_be_done, possible

FIRST_SIGN = 32
LAST_SIGN = 126
# The sign that no text has, by its number: it does not stand in the program's own texts either.
BARRED_SIGN = 37


class Desk:
    """A run that grows, with checkpoints and snapshots by colours."""

    def __init__(self, net):
        self.net = net
        self.colouring = Colouring(net)
        self.checkpoints = [[0] for _ in net.processes]
        self.answered = []

    def tell(self, line):
        """The answer to the line; BadLine if it is none that the desk knows."""
        if not is_line(line):
            raise BadLine(0)
        answer = self.answer_or_no(line)
        self.answered.append(line)
        return answer

    def log(self):
        """The lines that were answered."""
        return "".join([line + "\n" for line in self.answered])

    def answer_or_no(self, line):
        """The answer to the line, or the word of the error that it raises; nothing is changed then."""
        try:
            return self.answer(line)
        except BadStep:
            return "no BadStep"
        except BadClaim:
            return "no BadClaim"
        except TooMany:
            return "no TooMany"
        except NothingThere:
            return "no NothingThere"

    def answer(self, line):
        """The answer to the line."""
        words = line.split(" ")
        word = words[0]
        if word in ("possibly", "definitely") and len(words) > 1:
            return self.ask(word, line[len(word) + 1:])
        if len(words) == 1:
            return self.answer_alone(word)
        if is_deed_line(words):
            return self.do(deed_told(words))
        if word == "begin" and len(words) == 3:
            return self.begin(process_told(self.net, words[1]), snapshot_told(words[2]))
        if word == "snapshot" and len(words) == 2:
            return self.snapshot(snapshot_told(words[1]))
        if word == "keep" and len(words) == 2:
            return self.keep(process_told(self.net, words[1]))
        if word == "fail":
            return self.fail([process_told(self.net, name) for name in words[1:]])
        raise BadLine(0)

    def answer_alone(self, word):
        """The answer to a line of one word."""
        if word == "can":
            return ", ".join([joined_words(deed) for deed in possible(self.net, self.now())])
        if word == "world":
            return world_text(self.now())
        if word == "cuts":
            return str(count_cuts(self.net, self.history()))
        if word == "drop":
            return self.drop()
        raise BadLine(0)

    def now(self):
        """The world behind all deeds."""
        return self.colouring.course.world

    def history(self):
        """What each process has done."""
        return rows_of(self.net, self.colouring.course.deeds)

    def do(self, deed):
        """Does the deed; how many there are then."""
        if not self.colouring.step(deed):
            # What could be done, but is not let be, is one too many.
            if can_be_done(self.net, self.now(), deed):
                raise TooMany("deeds")
            raise BadStep(0)
        return str(len(self.colouring.course.deeds))

    def begin(self, process, snapshot):
        """Lets the process record the snapshot."""
        if not self.colouring.step(("begin", process, snapshot)):
            raise BadStep(0)
        return "ok"

    def snapshot(self, snapshot):
        """What is recorded of the snapshot."""
        course = self.colouring.course
        if snapshot not in course.begun():
            raise NothingThere("snapshot")
        return joined_words(["cut", *["-" if many is None else many for many in course.cuts[snapshot]]])

    def ask(self, word, text):
        """Whether the claim with this text holds possibly, and where, or definitely."""
        claim = read_claim(self.net, text)
        if word == "definitely":
            return "yes" if definitely(self.net, self.history(), claim) else "no"
        cut = possibly(self.net, self.history(), claim)
        return "never" if cut is None else joined_words(cut)

    def keep(self, process):
        """Makes a checkpoint at the process's present number; the number."""
        many = self.colouring.course.counts[process]
        if many not in self.checkpoints[process]:
            self.checkpoints[process].append(many)
        return str(many)

    def fail(self, failed):
        """Goes back to the line, for failed processes that must be rising; the line."""
        if not all([one < other for one, other in zip(failed, failed[1:])]):
            raise BadLine(0)
        told = self.history()
        cut = standing(Tale(self.net, told), self.checkpoints, failed)
        run = run_through(self.net, told, cut)[:sum(cut)]
        # Of the snapshots nothing stays, so the run is done anew without them.
        self.colouring = Colouring(self.net)
        for deed in run:
            self.colouring.do(deed)
        self.checkpoints = [[many for many in row if many <= most] for row, most in zip(self.checkpoints, cut)]
        return joined_words(cut)

    def drop(self):
        """Drops the checkpoints that no line will ever need, but 0; how many."""
        rows = droppable(self.net, self.history(), self.checkpoints)
        gone = [[many for many in row if many > 0] for row in rows]
        self.checkpoints = [[many for many in row if many not in old] for row, old in zip(self.checkpoints, gone)]
        return str(sum([len(row) for row in gone]))


def is_line(value):
    """Whether the value is a text without line feeds."""
    return isinstance(value, str) and all([
        FIRST_SIGN <= ord(sign) <= LAST_SIGN and ord(sign) != BARRED_SIGN for sign in value])


def process_told(net, name):
    """The number of the process with this name."""
    process = place(net.processes, name)
    if process is None:
        raise BadLine(0)
    return process


def snapshot_told(word):
    """The number of the snapshot that the word tells."""
    if not is_numeral(word) or number_told(word) >= MANY_SNAPSHOTS:
        raise BadLine(0)
    return number_told(word)


def world_text(world):
    """The states, and for each channel its present messages."""
    channels = ["".join([f" {k}:{token}" for k, token in row]) for row in world[2]]
    return joined_words(world[0]) + ";" + "".join([" |" + pairs for pairs in channels])


def replayed_desk(net, log):
    """A desk on which the lines of the log were told."""
    if not isinstance(log, str):
        raise BadLine(0)
    lines = log.split("\n")
    # Behind the last line feed nothing may stand.
    rest = lines.pop()
    desk = Desk(net)
    for at, line in enumerate(lines):
        try:
            desk.tell(line)
        except BadLine:
            raise BadLine(at) from None
    if rest != "":
        raise BadLine(len(lines))
    return desk
