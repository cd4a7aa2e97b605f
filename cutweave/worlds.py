"""Worlds of a net, and the deeds that lead from one to the next."""

from cutweave.errors import BadStep
from cutweave.nets import LOSSY, ORDERED
from cutweave.shapes import is_below, is_number, is_row


def start(net):
    """The world in which nothing is done yet."""
    many = len(net.channels)
    return (0,) * len(net.processes), (0,) * many, ((),) * many


def owner(net, deed):
    """The process that the deed belongs to."""
    if not is_deed(net, deed):
        raise BadStep(0)
    if deed[0] == "lose":
        return net.channels[deed[1]][2]
    return net.rules[deed[1]][0]


def is_deed(net, deed):
    """Whether the value is a deed of the net, in whatever world it could be done."""
    if is_row(deed, 2):
        return deed[0] == "act" and act_word(net, deed[1]) in ("do", "send")
    if not is_row(deed, 3) or not is_number(deed[2]):
        return False
    if deed[0] == "take":
        return act_word(net, deed[1]) == "take"
    return deed[0] == "lose" and is_below(deed[1], len(net.channels)) and net.channels[deed[1]][3] in LOSSY


def act_word(net, rule):
    """The first word of the rule's act, None if there is no such rule."""
    return net.rules[rule][2][0] if is_below(rule, len(net.rules)) else None


def message_gone(net, deed):
    """The message (channel, k) that the deed of the net takes or loses, None if it does neither."""
    if deed[0] == "act":
        return None
    channel = deed[1] if deed[0] == "lose" else net.rules[deed[1]][2][1]
    return channel, deed[2]


def sends_on(net, deed):
    """The channel on which the deed of the net sends, None if it does not send."""
    if deed[0] == "lose":
        return None
    act = net.rules[deed[1]][2]
    return act[1] if act[0] == "send" else None


def possible(net, world):
    """All deeds that can be done in the world: those of rules, then losses."""
    deeds = []
    for rule in range(len(net.rules)):
        deeds.extend(rule_deeds(net, world, rule))
    for channel in range(len(net.channels)):
        deeds.extend(losses(net, world, channel))
    return tuple(deeds)


def rule_deeds(net, world, rule):
    """The deeds by this rule that can be done in the world, ascending."""
    process, state, act, _ = net.rules[rule]
    if world[0][process] != state:
        return []
    if act[0] != "take":
        return [("act", rule)]
    return [("take", rule, k) for k, token in at_hand(net, world, act[1]) if token == act[2]]


def losses(net, world, channel):
    """The losses in this channel that there can be in the world, ascending."""
    if net.channels[channel][3] not in LOSSY:
        return []
    return [("lose", channel, k) for k, _ in at_hand(net, world, channel)]


def at_hand(net, world, channel):
    """The messages of the channel that none ahead of them keeps from being taken or lost."""
    present = world[2][channel]
    return present[:1] if net.channels[channel][3] in ORDERED else present


def done(net, world, deed):
    """The world behind the deed."""
    if not can_be_done(net, world, deed):
        raise BadStep(0)
    states, sent, present = tuple(world[0]), tuple(world[1]), present_rows(world)
    if deed[0] == "lose":
        return states, sent, without(present, deed[1], deed[2])
    process, _, act, then = net.rules[deed[1]]
    states = changed(states, process, then)
    if act[0] == "send":
        messages = (*present[act[1]], (sent[act[1]], act[2]))
        return states, changed(sent, act[1], sent[act[1]] + 1), changed(present, act[1], messages)
    if act[0] == "take":
        present = without(present, act[1], deed[2])
    return states, sent, present


def can_be_done(net, world, deed):
    """Whether the value is a deed of the net that can be done in the world."""
    if not is_deed(net, deed):
        return False
    if deed[0] == "lose":
        return tuple(deed) in losses(net, world, deed[1])
    return tuple(deed) in rule_deeds(net, world, deed[1])


def present_rows(world):
    """The present messages of the world as tuples, however they were handed in."""
    return tuple([tuple([tuple(message) for message in row]) for row in world[2]])


def without(present, channel, gone):
    """The present messages, the one with the number gone left out of the channel."""
    return changed(present, channel, tuple([message for message in present[channel] if message[0] != gone]))


def changed(row, at, value):
    """The row, a tuple, with the value at this place."""
    return (*row[:at], value, *row[at + 1:])
