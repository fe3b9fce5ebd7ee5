"""Which doubts matter to who holds a plot, and which papers do not."""

from soundtitle.errors import NoHead
from soundtitle.lots import has_head
from soundtitle.rolls import papers_for, without_paper
from soundtitle.truths import holding, holding_in, members, truths_of


def matters(case, plot, rule):
    """The ascending list of the heads of the doubts that matter."""
    names = _names(case, holding(case, plot, rule))
    return [doubt[0] for doubt in case.doubts() if _turned(case, names, doubt)]


def turned_by(case, plot, rule, head):
    """How many pairs of truths there are that are alike but for a doubt, and unlike in who holds the plot."""
    names = _names(case, holding(case, plot, rule))
    if not has_head(case, head):
        raise NoHead(head)
    return len(_turned(case, names, case.doubt_of(head)))


def turns(case, plot, rule, head):
    """The ascending list of who holds the plot in such pairs: where the doubt is sound, and where it is void."""
    names = _names(case, holding(case, plot, rule))
    if not has_head(case, head):
        raise NoHead(head)
    return sorted(set(_turned(case, names, case.doubt_of(head))))


def idle(case, plot, rule):
    """The ascending list of the papers for the plot without which who holds it is the same in all truths."""
    held = holding(case, plot, rule)
    roll = case.roll()
    needed = [paper[2] for paper in roll[1] if paper[0] == "release"]
    truths = truths_of(case)
    found = []
    for number in papers_for(roll, plot):
        if number not in needed:
            void_in = truths.void_in[:number] + truths.void_in[number + 1:]
            if holding_in(without_paper(roll, number), plot, rule, truths.every, void_in) == held:
                found.append(number)
    return found


def _names(case, held):
    """The dict from the truths of the Case to who holds the plot in them."""
    rows = truths_of(case).rows
    return {rows[at]: name for name, some in held.items() for at in members(some)}


def _turned(case, names, doubt):
    """The list of the tuples (name, other) of the pairs that a doubt turns, the name being where it is sound."""
    found = []
    for truth, name in names.items():
        if doubt[0] not in truth:
            # The bound may not let the doubt be void besides.
            other = names.get(tuple(sorted(truth + doubt)), name)
            if other != name:
                found.append((name, other))
    return found
