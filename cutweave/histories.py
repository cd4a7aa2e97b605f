"""Histories: what each process does in a run, whatever the others do meanwhile."""

from cutweave.errors import BadStep
from cutweave.runs import MOST_DEEDS, played
from cutweave.shapes import is_row, is_sequence
from cutweave.worlds import can_be_done, done, is_deed, owner, start


def history(net, deeds):
    """For each process its deeds in the run, in their sequence."""
    played(net, deeds)
    return rows_of(net, deeds)


def rows_of(net, deeds):
    """For each process the tuple of those of the deeds that are its own."""
    rows = [[] for _ in net.processes]
    for deed in deeds:
        rows[owner(net, deed)].append(tuple(deed))
    return tuple([tuple(row) for row in rows])


def is_history(net, told):
    """Whether the value is the history of some run of the net."""
    return run_of(net, told) is not None


def same_history(net, deeds, others):
    """Whether the two runs have one history."""
    one = history(net, deeds)
    return one == history(net, others)


def least_run(net, told):
    """Of the runs with this history the one in which the least process that can goes first, at each place."""
    run = run_of(net, told)
    if run is None:
        raise BadStep(0)
    return run


def run_of(net, told):
    """The least run with this history, None if the value is no history."""
    if not are_rows(net, told):
        return None
    run, _ = least_way(net, told, start(net), (0,) * len(told))
    return run if len(run) == many_events(told) else None


def are_rows(net, told):
    """Whether the value tells for each process deeds of its own, no more in all than a run has."""
    return (is_row(told, len(net.processes)) and all([is_sequence(row) for row in told])
            and many_events(told) <= MOST_DEEDS
            and all([is_deed(net, deed) and owner(net, deed) == process
                     for process, row in enumerate(told) for deed in row]))


def many_events(told):
    """How many deeds there are in all rows together."""
    return sum([len(row) for row in told])


def least_way(net, rows, world, behind):
    """The deeds of the rows that can be done from this world on, the least process first, and the world then.

    Behind tells for each process how many deeds of its row are done. What a process can do next no
    other process can take from it: each message has one taker. So it does not matter for how far
    this goes who goes first, and the least process that can go is at each place the right one.
    """
    counts = list(behind)
    deeds = []
    process = first_ready(net, rows, world, counts)
    while process is not None:
        deed = rows[process][counts[process]]
        world = done(net, world, deed)
        counts[process] += 1
        deeds.append(tuple(deed))
        process = first_ready(net, rows, world, counts)
    return tuple(deeds), world


def first_ready(net, rows, world, counts):
    """The least process whose next deed can be done in the world, None if there is none."""
    for process, row in enumerate(rows):
        at = counts[process]
        if at < len(row) and can_be_done(net, world, row[at]):
            return process
    return None
