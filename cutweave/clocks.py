"""Clocks: what of each process is ahead of an event."""

from cutweave.errors import BadValue
from cutweave.histories import least_run
from cutweave.shapes import is_below, is_row
from cutweave.worlds import message_gone, owner, sends_on


def clocks(net, told):
    """For each process the clocks of its events."""
    return clocks_in(net, least_run(net, told))


def clocks_in(net, run):
    """For each process the clocks of its events in the run."""
    rows = [[] for _ in net.processes]
    # For each channel the clocks of its sends: message k is the k-th of them.
    sends = [[] for _ in net.channels]
    for deed in run:
        row = rows[owner(net, deed)]
        clock = row[-1] if row else (0,) * len(rows)
        message = message_gone(net, deed)
        if message is not None:
            clock = later(clock, sends[message[0]][message[1]])
        clock = ticked(clock, owner(net, deed))
        row.append(clock)
        channel = sends_on(net, deed)
        if channel is not None:
            sends[channel].append(clock)
    return tuple([tuple(row) for row in rows])


def later(one, other):
    """The clock of what is behind both."""
    return tuple([max(pair) for pair in zip(one, other)])


def ticked(clock, process):
    """The clock with one event more of the process."""
    return tuple([many + 1 if at == process else many for at, many in enumerate(clock)])


def ahead(net, told, one, other):
    """Whether the event one is ahead of the event other."""
    rows = clocks(net, told)
    if not is_event(rows, one):
        raise BadValue(2)
    if not is_event(rows, other):
        raise BadValue(3)
    if tuple(one) == tuple(other):
        return False
    return rows[other[0]][other[1]][one[0]] > one[1]


def is_event(rows, value):
    """Whether the value is (process, number) of an event of the history, rows being told for its processes."""
    return is_row(value, 2) and is_below(value[0], len(rows)) and is_below(value[1], len(rows[value[0]]))
