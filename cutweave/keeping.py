"""What is kept to go on behind a cut: states of processes, messages that are sent again, and the worlds then."""

from cutweave.cuts import world_at
from cutweave.errors import BadStep, BadValue
from cutweave.runs import worlds_on
from cutweave.shapes import is_below, is_sequence
from cutweave.tales import Tale, state_behind
from cutweave.worlds import is_deed, owner


def local_state(net, told, process, many):
    """The state of the process behind its first so many deeds."""
    tale = Tale(net, told)
    if not is_below(process, len(tale.rows)):
        raise BadValue(2)
    if not is_below(many, len(tale.states[process])):
        raise BadValue(3)
    return tale.states[process][many]


def replayed(net, process, state, deeds):
    """The state, and those that the process goes through from it by these deeds of its own."""
    if not is_sequence(deeds):
        raise BadStep(0)
    states = [state]
    for at, deed in enumerate(deeds):
        if not is_own_deed(net, process, states[-1], deed):
            raise BadStep(at)
        states.append(state_behind(net, states[-1], deed))
    return tuple(states)


def is_own_deed(net, process, state, deed):
    """Whether the value is a deed of the process that it can do in the state, as far as the state tells."""
    if not is_deed(net, deed) or owner(net, deed) != process:
        return False
    return deed[0] == "lose" or net.rules[deed[1]][1] == state


def resent(net, told, cut):
    """For each channel the messages present at the consistent cut."""
    return world_at(net, told, cut)[2]


def resumed(net, told, cut, deeds):
    """The worlds from the one at the consistent cut on, by these deeds."""
    world = world_at(net, told, cut)
    return worlds_on(net, world, sum(cut), deeds)
