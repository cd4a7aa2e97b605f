"""Papers: texts that show whether a claim holds at some cut, or on each way, without any search."""

from cutweave.claims import holds
from cutweave.errors import NothingThere
from cutweave.lattice import all_cuts, cuts_above
from cutweave.tales import Tale
from cutweave.ways import avoiding, possibly
from cutweave.words import joined_words


def some_paper(net, told, claim):
    """The paper with the first cut at which the claim holds."""
    cut = possibly(net, told, claim)
    if cut is None:
        raise NothingThere("some")
    return paper_of("some", cut_rows([cut]))


def none_paper(net, told, claim):
    """The paper with all consistent cuts, at none of which the claim holds."""
    if possibly(net, told, claim) is not None:
        raise NothingThere("none")
    return paper_of("none", cut_rows(sorted(all_cuts(net, told))))


def avoid_paper(net, told, claim):
    """The paper with the least run in none of whose worlds the claim holds."""
    run = avoiding(net, told, claim)
    if run is None:
        raise NothingThere("avoid")
    return paper_of("avoid", run)


def always_paper(net, told, claim):
    """The paper with the cuts beyond which no run comes without a world in which the claim holds."""
    if avoiding(net, told, claim) is not None:
        raise NothingThere("always")
    return paper_of("always", cut_rows(reached_cuts(Tale(net, told), claim)))


def reached_cuts(tale, claim):
    """The cuts to which steps up lead from the empty one, the claim holding at none of all these; ascending."""
    reached = set()
    waiting = [tale.empty_cut()]
    while waiting:
        cut = waiting.pop()
        if cut not in reached and not holds(tale.net, claim, tale.world_behind(cut)):
            reached.add(cut)
            waiting.extend(cuts_above(tale.clocks, cut))
    return sorted(reached)


def cut_rows(cuts):
    """The words and numbers of the cuts' lines."""
    return [("cut", *cut) for cut in cuts]


def paper_of(kind, rows):
    """The paper of this kind, rows being the words and numbers of its other lines."""
    return "".join([joined_words(row) + "\n" for row in [(kind,), *rows]])
