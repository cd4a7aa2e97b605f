"""The checking of papers, line by line and without any search."""

from cutweave.claims import holds
from cutweave.cuts import is_consistent
from cutweave.errors import BadPaper, BadStep
from cutweave.histories import rows_of
from cutweave.lattice import cuts_above
from cutweave.runs import played
from cutweave.tales import Tale
from cutweave.words import cut_told, deed_told, is_cut_line, is_deed_line

PAPER_KINDS = ("some", "none", "avoid", "always")


def paper_holds(net, told, claim, paper):
    """The kind of the paper, if it is right."""
    tale = Tale(net, told)
    kind, rows = read_paper(paper)
    if not is_right(tale, claim, kind, rows):
        raise BadPaper(0)
    return kind


def read_paper(paper):
    """The kind of the paper and the words of its other lines, each of which is of the form."""
    if not isinstance(paper, str):
        raise BadPaper(0)
    lines = paper.split("\n")
    # Behind the last line feed nothing may stand.
    rest = lines.pop()
    rows = [line.split(" ") for line in lines]
    for at in range(len(rows)):
        if not is_of_form(rows, at):
            raise BadPaper(at)
    if rest != "" or not rows or (rows[0] == ["some"] and len(rows) == 1):
        raise BadPaper(len(rows))
    return lines[0], rows[1:]


def is_of_form(rows, at):
    """Whether the line with this number is of the form, all ahead of it being so; rows are the words of the lines."""
    kind = rows[0][0]
    words = rows[at]
    if at == 0:
        return len(words) == 1 and kind in PAPER_KINDS
    if kind == "avoid":
        return is_deed_line(words)
    if not is_cut_line(words):
        return False
    return at == 1 or (kind != "some" and sizes(rows[at - 1]) < sizes(words))


def sizes(words):
    """What stands to what another cut's line gives as the one cut to the other, however long the numbers are."""
    return tuple([(len(word), word) for word in words[1:]])


def is_right(tale, claim, kind, rows):
    """Whether the paper of this kind is right, rows being the words of its lines behind the first."""
    if kind == "avoid":
        return is_way_around(tale, claim, [deed_told(words) for words in rows])
    cuts = [cut_told(words) for words in rows]
    if kind == "some":
        return is_consistent(tale.clocks, cuts[0]) and holds_at(tale, claim, cuts[0])
    if not all([is_consistent(tale.clocks, cut) and not holds_at(tale, claim, cut) for cut in cuts]):
        return False
    lines = {cut: True for cut in cuts}
    if kind == "none":
        return tale.empty_cut() in lines and all([above in lines for above in steps_from(tale, cuts)])
    return tale.whole_cut() not in lines and all([
        cut in lines or holds_at(tale, claim, cut) for cut in [tale.empty_cut(), *steps_from(tale, cuts)]])


def holds_at(tale, claim, cut):
    """Whether the claim holds at the world of the consistent cut."""
    return holds(tale.net, claim, tale.world_behind(cut))


def steps_from(tale, cuts):
    """All steps up of the consistent cuts."""
    return [above for cut in cuts for above in cuts_above(tale.clocks, cut)]


def is_way_around(tale, claim, deeds):
    """Whether the deeds are a run with this history, and the claim holds in none of its worlds."""
    try:
        worlds = played(tale.net, deeds)
    except BadStep:
        return False
    return rows_of(tale.net, deeds) == tale.rows and not any([holds(tale.net, claim, world) for world in worlds])
