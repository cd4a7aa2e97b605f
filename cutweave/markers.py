"""Snapshots by markers, in nets whose channels are all in order."""

from cutweave.errors import BadStep, BadValue
from cutweave.records import MANY_SNAPSHOTS, Course, pairs_by_channel
from cutweave.shapes import is_below, is_row, is_sequence
from cutweave.worlds import message_gone


class Marking:
    """A run that grows in a net whose channels bear markers beside the messages."""

    def __init__(self, net):
        self.net = net
        self.course = Course(net)
        # For each channel its markers, the first one first: (snapshot, how many messages were sent ahead of it).
        self.markers = [[] for _ in net.channels]
        self.arrived = [[False] * len(net.channels) for _ in range(MANY_SNAPSHOTS)]
        self.under_way = pairs_by_channel(net)

    def step(self, happening):
        """Lets the happening be, if it can be; whether it could."""
        if self.course.can_begin(happening):
            self.record(happening[1], happening[2])
        elif self.can_arrive(happening):
            self.arrive(happening[1])
        elif self.course.can_do(happening) and not self.is_behind_marker(happening):
            self.do(happening)
        else:
            return False
        return True

    def record(self, process, snapshot):
        """The process records the snapshot, and puts its marker into each of its outgoing channels."""
        self.course.record(process, snapshot)
        for channel, row in enumerate(self.net.channels):
            if row[1] == process:
                self.markers[channel].append((snapshot, self.course.world[1][channel]))

    def can_arrive(self, happening):
        """Whether the value is the arrival of a marker that is the first thing in its channel."""
        if not is_row(happening, 2) or happening[0] != "mark" or not is_below(happening[1], len(self.markers)):
            return False
        markers = self.markers[happening[1]]
        present = self.course.world[2][happening[1]]
        return len(markers) > 0 and (len(present) == 0 or present[0][0] >= markers[0][1])

    def arrive(self, channel):
        """The first marker of the channel goes; its snapshot is recorded by the taker, if it has not done so."""
        snapshot, _ = self.markers[channel].pop(0)
        self.arrived[snapshot][channel] = True
        taker = self.net.channels[channel][2]
        if not self.course.has_recorded(taker, snapshot):
            self.record(taker, snapshot)

    def is_behind_marker(self, deed):
        """Whether the deed takes a message ahead of which a marker stands."""
        message = message_gone(self.net, deed)
        if message is None:
            return False
        markers = self.markers[message[0]]
        return len(markers) > 0 and markers[0][1] <= message[1]

    def do(self, deed):
        """Does the deed; a message that it takes is under way for the snapshots whose markers are still to come."""
        message = message_gone(self.net, deed)
        if message is not None:
            channel, number = message
            for snapshot in self.course.recorded_by(self.net.channels[channel][2]):
                if not self.arrived[snapshot][channel]:
                    self.under_way[snapshot][channel].append((number, self.course.token(message)))
        self.course.do(deed)

    def told(self, snapshot):
        """What is to be told of the snapshot."""
        cut = tuple(self.course.cuts[snapshot])
        finished = all([many is not None for many in cut]) and all(self.arrived[snapshot])
        return snapshot, cut, tuple([tuple(row) for row in self.under_way[snapshot]]), finished


def marked(net, happenings):
    """The run of the deeds among the happenings, and what its snapshots tell."""
    if not all([row[3] == "order" for row in net.channels]):
        raise BadValue(0)
    if not is_sequence(happenings):
        raise BadStep(0)
    marking = Marking(net)
    for at, happening in enumerate(happenings):
        if not marking.step(happening):
            raise BadStep(at)
    return tuple(marking.course.deeds), tuple([marking.told(snapshot) for snapshot in marking.course.begun()])
