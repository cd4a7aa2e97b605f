"""The lattice of the consistent cuts of a history."""

from cutweave.clocks import clocks
from cutweave.cuts import consistent_clocks, is_nowhere_above, is_within, last_clocks
from cutweave.errors import BadCut, TooMany

MOST_CUTS = 5000


def met(one, other):
    """Place by place the lesser number."""
    return tuple([min(pair) for pair in zip(one, other)])


def joined(one, other):
    """Place by place the greater number."""
    return tuple([max(pair) for pair in zip(one, other)])


def bound_clocks(net, told, bound):
    """The clocks of the history, of which the bound must be a cut."""
    rows = clocks(net, told)
    if not is_within(rows, bound):
        raise BadCut(0)
    return rows


def least_over(net, told, bound):
    """The least consistent cut that is nowhere less than the bound."""
    rows = bound_clocks(net, told, bound)
    cut = tuple(bound)
    for clock in last_clocks(rows, bound):
        cut = joined(cut, clock)
    return cut


def greatest_within(net, told, bound):
    """The greatest consistent cut that is nowhere greater than the bound."""
    rows = bound_clocks(net, told, bound)
    # An event can be in such a cut just if all that is ahead of it is within the bound, too.
    return tuple([len([clock for clock in row if is_nowhere_above(clock, bound)]) for row in rows])


def steps_up(net, told, cut):
    """The consistent cuts with one event more than this one, ascending by processes."""
    return tuple(cuts_above(consistent_clocks(net, told, cut), cut))


def steps_down(net, told, cut):
    """The consistent cuts with one event less than this one, ascending by processes."""
    return tuple(cuts_below(consistent_clocks(net, told, cut), cut))


def cuts_above(rows, cut):
    """The steps up of the consistent cut, rows being the clocks."""
    steps = []
    for process, row in enumerate(rows):
        after = moved(cut, process, 1)
        if cut[process] < len(row) and is_nowhere_above(row[cut[process]], after):
            steps.append(after)
    return steps


def cuts_below(rows, cut):
    """The steps down of the consistent cut, rows being the clocks."""
    return [moved(cut, process, -1) for process in last_processes(rows, cut)]


def last_processes(rows, cut):
    """The processes whose last event in the consistent cut is ahead of no other event in it."""
    known = last_clocks(rows, cut)
    # The event itself is the only one in the cut that knows of all events of its process.
    return [process for process, many in enumerate(cut)
            if many > 0 and len([clock for clock in known if clock[process] == many]) == 1]


def moved(cut, process, by):
    """The cut with so many events more of the process."""
    return tuple([many + by if at == process else many for at, many in enumerate(cut)])


def levels(rows):
    """All consistent cuts, ascending, in a row for each number of events; rows are the clocks."""
    cuts = [[(0,) * len(rows)]]
    many = 1
    for _ in range(sum([len(row) for row in rows])):
        cuts.append(level_above(rows, cuts[-1]))
        many += len(cuts[-1])
        if many > MOST_CUTS:
            raise TooMany("cuts")
    return cuts


def level_above(rows, below):
    """The cuts with one event more than those below, ascending."""
    return sorted(set([cut for step in below for cut in cuts_above(rows, step)]))


def all_cuts(net, told):
    """All consistent cuts, ascending by how many events they have, then as tuples."""
    return tuple([cut for row in levels(clocks(net, told)) for cut in row])


def count_cuts(net, told):
    """How many consistent cuts there are."""
    return sum([len(row) for row in levels(clocks(net, told))])


def level(net, told, many):
    """The consistent cuts with so many events."""
    cuts = levels(clocks(net, told))
    return tuple(cuts[many]) if 0 <= many < len(cuts) else ()


def primes(net, told):
    """The clocks of all events, process by process: the cuts that are not joined of lesser ones."""
    return tuple([clock for row in clocks(net, told) for clock in row])


def parts(net, told, cut):
    """The clocks of the events in the consistent cut that are ahead of no other one in it, ascending."""
    rows = consistent_clocks(net, told, cut)
    return tuple(sorted([rows[process][cut[process] - 1] for process in last_processes(rows, cut)]))


def chain_count(net, told):
    """How many runs have this history."""
    rows = clocks(net, told)
    cuts = levels(rows)
    ways = {cuts[0][0]: 1}
    for row in cuts[1:]:
        for cut in row:
            ways[cut] = sum([ways[below] for below in cuts_below(rows, cut)])
    return ways[cuts[-1][0]]
