"""What is known of a history, made ready to be asked at many cuts."""

from cutweave.clocks import clocks_in
from cutweave.histories import least_run, rows_of
from cutweave.worlds import message_gone, sends_on


class Message:
    """A message of a history: its token, the number of the deed that sends it, and of the one by which it goes."""

    def __init__(self, token, sent_at):
        self.token = token
        self.sent_at = sent_at
        self.gone_at = None
        self.lost = False

    def is_sent(self, many):
        """Whether it is sent within the first so many deeds of its giver."""
        return self.sent_at < many

    def is_gone(self, many):
        """Whether it is taken or lost within the first so many deeds of its taker."""
        return self.gone_at is not None and self.gone_at < many


class Tale:
    """A history of the net; BadStep if told is none."""

    def __init__(self, net, told):
        run = least_run(net, told)
        self.net = net
        self.rows = rows_of(net, run)
        self.clocks = clocks_in(net, run)
        # For each process its state behind each number of its deeds.
        self.states = [states_from(net, 0, row) for row in self.rows]
        # For each channel its messages; message k is the k-th of them.
        self.messages = messages_in(net, self.rows)

    def empty_cut(self):
        """The cut without events."""
        return (0,) * len(self.rows)

    def whole_cut(self):
        """The cut with all events."""
        return tuple([len(row) for row in self.rows])

    def world_behind(self, cut):
        """The world behind just the deeds in the consistent cut."""
        states = tuple([row[many] for row, many in zip(self.states, cut)])
        sent = []
        present = []
        for channel, messages in enumerate(self.messages):
            giver, taker = self.net.channels[channel][1:3]
            sent.append(len([message for message in messages if message.is_sent(cut[giver])]))
            present.append(self.pairs_between(channel, cut[giver], cut[taker]))
        return states, tuple(sent), tuple(present)

    def pairs_between(self, channel, given, taken):
        """The pairs (k, token) of what so many deeds of the giver have sent, and those of the taker not made go."""
        return tuple([(k, message.token) for k, message in enumerate(self.messages[channel])
                      if message.is_sent(given) and not message.is_gone(taken)])


def states_from(net, state, deeds):
    """The state, and those that a process goes through from it by these deeds of its own."""
    states = [state]
    for deed in deeds:
        states.append(state_behind(net, states[-1], deed))
    return tuple(states)


def state_behind(net, state, deed):
    """The state of the deed's process behind it: losses leave it."""
    return state if deed[0] == "lose" else net.rules[deed[1]][3]


def messages_in(net, rows):
    """For each channel the messages that are sent on it, each told when it is sent and when it goes."""
    messages = [[] for _ in net.channels]
    for row in rows:
        for at, deed in enumerate(row):
            channel = sends_on(net, deed)
            if channel is not None:
                messages[channel].append(Message(net.rules[deed[1]][2][2], at))
    for row in rows:
        for at, deed in enumerate(row):
            name = message_gone(net, deed)
            if name is not None:
                message = messages[name[0]][name[1]]
                message.gone_at = at
                message.lost = deed[0] == "lose"
    return messages
