"""What stays as it is: worlds in which nothing more is done, and amounts that the rules keep."""

from cutweave.cuts import is_consistent
from cutweave.errors import BadCut
from cutweave.nets import LOSSY
from cutweave.tales import Tale
from cutweave.worlds import at_hand


def still(net, world):
    """Whether no deed of a rule can be done in the world, neither now nor behind any row of losses."""
    return not any([can_come(net, world, rule) for rule in net.rules])


def can_come(net, world, rule):
    """Whether a deed of the rule, one row of the net, can be done in the world or behind some losses."""
    process, state, act, _ = rule
    if world[0][process] != state:
        return False
    return act[0] != "take" or act[2] in [token for _, token in within_reach(net, world, act[1])]


def within_reach(net, world, channel):
    """The messages of the channel that can be taken in the world or behind some losses."""
    # In a lossy channel all that stands ahead of a message can be lost.
    return world[2][channel] if net.channels[channel][3] in LOSSY else at_hand(net, world, channel)


def ended(net, world):
    """Whether the world is still and nothing is present in it."""
    return still(net, world) and not any([len(row) > 0 for row in world[2]])


def amount(net, weights, world):
    """The values of all states and the worths of all tokens present, summed up."""
    values, worths = weights
    of_states = sum([values[process][state] for process, state in enumerate(world[0])])
    return of_states + sum([worths[token] for row in world[2] for _, token in row])


def keeps(net, weights):
    """Whether each rule leaves the amount as it is."""
    return all([rule_gain(weights, rule) == 0 for rule in net.rules])


def rule_gain(weights, rule):
    """How much greater the amount is behind a deed of the rule than ahead of it."""
    values, worths = weights
    process, state, act, then = rule
    gain = values[process][then] - values[process][state]
    if act[0] == "send":
        return gain + worths[act[2]]
    if act[0] == "take":
        return gain - worths[act[2]]
    return gain


def lost_amount(net, told, cut, weights):
    """The worths of all messages lost in the consistent cut, summed up."""
    tale = Tale(net, told)
    if not is_consistent(tale.clocks, cut):
        raise BadCut(0)
    return sum([weights[1][message.token] for channel, messages in enumerate(tale.messages) for message in messages
                if message.lost and message.is_gone(cut[net.channels[channel][2]])])
