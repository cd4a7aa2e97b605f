"""Whether a claim holds at some cut of a history, or on the way of each run with it."""

from cutweave.claims import holds
from cutweave.lattice import cuts_above, levels, moved
from cutweave.tales import Tale


def possibly(net, told, claim):
    """The first of all consistent cuts at whose world the claim holds, None if there is none."""
    tale = Tale(net, told)
    for row in levels(tale.clocks):
        for cut in row:
            if holds(net, claim, tale.world_behind(cut)):
                return cut
    return None


def definitely(net, told, claim):
    """Whether each run with this history has a world in which the claim holds."""
    return avoiding(net, told, claim) is None


def avoiding(net, told, claim):
    """Of the runs with this history in none of whose worlds the claim holds the least one, None if there is none."""
    tale = Tale(net, told)
    leading = leading_cuts(tale, claim)
    cut = tale.empty_cut()
    if cut not in leading:
        return None
    deeds = []
    while cut != tale.whole_cut():
        process = [at for at in range(len(cut)) if moved(cut, at, 1) in leading][0]
        deeds.append(tale.rows[process][cut[process]])
        cut = moved(cut, process, 1)
    return tuple(deeds)


def leading_cuts(tale, claim):
    """The cuts from which the whole one can be reached by steps up, the claim holding at none of all these."""
    leading = {}
    for row in reversed(levels(tale.clocks)):
        for cut in row:
            goes_on = cut == tale.whole_cut() or any([above in leading for above in cuts_above(tale.clocks, cut)])
            if goes_on and not holds(tale.net, claim, tale.world_behind(cut)):
                leading[cut] = True
    return leading
