"""Cuts of a history: how many of its events are counted in for each process."""

from cutweave.clocks import clocks
from cutweave.errors import BadCut
from cutweave.histories import least_way
from cutweave.shapes import is_below, is_row
from cutweave.worlds import start


def is_cut(net, told, cut):
    """Whether the value is a consistent cut of the history."""
    return is_consistent(clocks(net, told), cut)


def is_within(rows, cut):
    """Whether the value is a cut, rows being the history or its clocks."""
    return is_row(cut, len(rows)) and all([is_below(many, len(row) + 1) for many, row in zip(cut, rows)])


def is_consistent(rows, cut):
    """Whether the value is a consistent cut, rows being the clocks."""
    return is_within(rows, cut) and all([is_nowhere_above(clock, cut) for clock in last_clocks(rows, cut)])


def is_nowhere_above(one, other):
    """Whether one is at no place greater than the other."""
    return all([here <= there for here, there in zip(one, other)])


def last_clocks(rows, cut):
    """The clocks of the last events in the cut; what is ahead of others in it is ahead of these."""
    return [row[many - 1] for row, many in zip(rows, cut) if many > 0]


def consistent_clocks(net, told, cut):
    """The clocks of the history, of which the cut must be a consistent one."""
    rows = clocks(net, told)
    if not is_consistent(rows, cut):
        raise BadCut(0)
    return rows


def world_at(net, told, cut):
    """The world behind just the deeds in the consistent cut."""
    consistent_clocks(net, told, cut)
    return way_to(net, told, cut)[1]


def way_to(net, told, cut):
    """The least run of the deeds in the consistent cut, and the world behind it."""
    return least_way(net, [row[:many] for row, many in zip(told, cut)], start(net), (0,) * len(told))


def run_through(net, told, cut):
    """The least run of the deeds in the consistent cut, and behind it the least one of the others."""
    consistent_clocks(net, told, cut)
    first, world = way_to(net, told, cut)
    rest, _ = least_way(net, told, world, cut)
    return first + rest
