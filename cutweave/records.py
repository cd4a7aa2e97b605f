"""Runs that grow while their processes record snapshots."""

from cutweave.runs import MOST_DEEDS
from cutweave.shapes import is_below, is_row
from cutweave.worlds import can_be_done, done, owner, start

MANY_SNAPSHOTS = 4


class Course:
    """A run that grows, and for each snapshot how many deeds each process had done when it recorded it."""

    def __init__(self, net):
        self.net = net
        self.world = start(net)
        self.deeds = []
        self.counts = [0] * len(net.processes)
        self.cuts = [[None] * len(net.processes) for _ in range(MANY_SNAPSHOTS)]

    def can_do(self, deed):
        """Whether the value is a deed that can be done, and is not one too many."""
        return len(self.deeds) < MOST_DEEDS and can_be_done(self.net, self.world, deed)

    def do(self, deed):
        """Does the deed, which can be done."""
        self.world = done(self.net, self.world, deed)
        self.counts[owner(self.net, deed)] += 1
        self.deeds.append(tuple(deed))

    def can_begin(self, happening):
        """Whether the value is a begin that can be."""
        return (is_row(happening, 3) and happening[0] == "begin"
                and is_below(happening[1], len(self.counts)) and is_below(happening[2], MANY_SNAPSHOTS)
                and not self.has_recorded(happening[1], happening[2]))

    def record(self, process, snapshot):
        """The process, which has not done so, records the snapshot."""
        self.cuts[snapshot][process] = self.counts[process]

    def has_recorded(self, process, snapshot):
        """Whether the process has recorded the snapshot."""
        return self.cuts[snapshot][process] is not None

    def recorded_by(self, process):
        """The snapshots that the process has recorded, ascending."""
        return tuple([snapshot for snapshot in range(MANY_SNAPSHOTS) if self.has_recorded(process, snapshot)])

    def begun(self):
        """The snapshots that some process has recorded, ascending."""
        return [snapshot for snapshot, cut in enumerate(self.cuts) if any([many is not None for many in cut])]

    def token(self, message):
        """The token of the message (channel, k), which is present."""
        channel, number = message
        return dict(self.world[2][channel])[number]


def pairs_by_channel(net):
    """For each snapshot, for each channel, a list for the messages that are told of it; all are empty."""
    return [[[] for _ in net.channels] for _ in range(MANY_SNAPSHOTS)]
