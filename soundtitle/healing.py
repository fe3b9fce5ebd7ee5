"""Whose signatures heal the title of a name, so that it holds a plot whatever the truth."""

from soundtitle.graph import graph_of
from soundtitle.lots import least_lots
from soundtitle.rolls import day_behind
from soundtitle.shown import shown_at


def signed(roll, plot, name, some):
    """The roll in which some names sell the plot to a name, behind all other papers."""
    firsts, papers = roll
    day = day_behind(roll)
    sales = [("sale", seller, name, (plot,), day, day) for seller in sorted(set(some)) if seller != name]
    return (firsts, papers + tuple(sales))


def heals(case, plot, rule, name, some):
    """Whether some names heal the title of a name."""
    return _meets_all(some, _lots(case, plot, rule, name))


def healers(case, plot, rule, name):
    """The ascending list of the tuples of an ending, and of the names of which each alone heals it, or None."""
    graph = graph_of(case, plot, rule)
    shown = shown_at(case.roll(), plot)[-1]
    found = []
    for state in graph.last_states():
        holder, base, _ = state
        some = None
        if holder != name:
            some = [holder]
            if rule[0] == "entered" or (rule[0] in ("innocent", "both") and base == shown):
                some.append(base)
            some = tuple([one for one in sorted(set(some)) if one != name])
        found.append(((state, ()), some))
    return found


def least_healing(case, plot, rule, name, barred):
    """The ascending list of the ascending tuples of names, none of them barred, that heal, and no lesser part does."""
    lots = _lots(case, plot, rule, name)
    # A name that heals nothing is in none of them.
    names = sorted(set([one for lot in lots for one in lot if one not in barred]))
    return least_lots(names, lambda some: _meets_all(some, lots))


def _lots(case, plot, rule, name):
    """The list of the names that heal, for each ending at which the name does not hold the plot."""
    return [some for _, some in healers(case, plot, rule, name) if some is not None]


def _meets_all(some, lots):
    return all([any([one in some for one in lot]) for lot in lots])
