"""Snapshots by colours: each message bears the snapshots that its giver had recorded."""

from cutweave.errors import BadStep
from cutweave.records import Course, pairs_by_channel
from cutweave.shapes import is_sequence
from cutweave.worlds import message_gone, owner, sends_on


class Colouring:
    """A run that grows in a net whose messages bear snapshots."""

    def __init__(self, net):
        self.net = net
        self.course = Course(net)
        # For each channel, for each message that was sent on it, the snapshots that it bears.
        self.colours = [[] for _ in net.channels]
        self.taken = pairs_by_channel(net)
        self.lost = pairs_by_channel(net)

    def step(self, happening):
        """Lets the happening be, if it can be; whether it could."""
        if self.course.can_begin(happening):
            self.course.record(happening[1], happening[2])
        elif self.course.can_do(happening):
            self.do(happening)
        else:
            return False
        return True

    def do(self, deed):
        """Does the deed, ahead of which its process records what the message bears that goes by it."""
        message = message_gone(self.net, deed)
        if message is not None:
            self.note_early(message, self.lost if deed[0] == "lose" else self.taken)
            self.record_borne(message)
        channel = sends_on(self.net, deed)
        if channel is not None:
            self.colours[channel].append(self.course.recorded_by(owner(self.net, deed)))
        self.course.do(deed)

    def note_early(self, message, pairs):
        """Notes the message that goes for each snapshot that its taker has recorded and it does not bear."""
        channel, number = message
        for snapshot in self.course.recorded_by(self.net.channels[channel][2]):
            if snapshot not in self.colours[channel][number]:
                pairs[snapshot][channel].append((number, self.course.token(message)))

    def record_borne(self, message):
        """The taker of the message records the snapshots that it bears, unless it has done so."""
        channel, number = message
        taker = self.net.channels[channel][2]
        for snapshot in self.colours[channel][number]:
            if not self.course.has_recorded(taker, snapshot):
                self.course.record(taker, snapshot)

    def awaited(self, snapshot, channel):
        """The early messages of the channel that are present, if its taker has recorded the snapshot."""
        if not self.course.has_recorded(self.net.channels[channel][2], snapshot):
            return ()
        return tuple([(number, token) for number, token in self.course.world[2][channel]
                      if snapshot not in self.colours[channel][number]])

    def told(self, snapshot):
        """What is to be told of the snapshot."""
        under_way = tuple([tuple(sorted(row)) for row in self.taken[snapshot]])
        lost = tuple([tuple(sorted(row)) for row in self.lost[snapshot]])
        awaited = tuple([self.awaited(snapshot, channel) for channel in range(len(self.colours))])
        return snapshot, tuple(self.course.cuts[snapshot]), under_way, lost, awaited


def coloured(net, happenings):
    """The run of the deeds among the happenings, and what its snapshots tell."""
    if not is_sequence(happenings):
        raise BadStep(0)
    colouring = Colouring(net)
    for at, happening in enumerate(happenings):
        if not colouring.step(happening):
            raise BadStep(at)
    return tuple(colouring.course.deeds), tuple([colouring.told(snapshot) for snapshot in colouring.course.begun()])
