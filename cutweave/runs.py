"""Runs: rows of deeds that can be done one behind the other, from the start on."""

from cutweave.errors import BadStep
from cutweave.shapes import is_sequence
from cutweave.worlds import can_be_done, done, start

MOST_DEEDS = 60


def played(net, deeds):
    """The worlds ahead of each deed and behind the last one."""
    return worlds_on(net, start(net), 0, deeds)


def worlds_on(net, world, many, deeds):
    """The world, ahead of which so many deeds were done, and those behind each of these deeds."""
    if not is_sequence(deeds):
        raise BadStep(0)
    worlds = [world]
    for at, deed in enumerate(deeds):
        if many + at == MOST_DEEDS or not can_be_done(net, worlds[-1], deed):
            raise BadStep(at)
        worlds.append(done(net, worlds[-1], deed))
    return tuple(worlds)
