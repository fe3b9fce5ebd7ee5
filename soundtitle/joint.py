"""Several plots of one Case together."""

from itertools import combinations

from soundtitle.truths import holding, many_in, truths_of


def joint(case, plots, rule):
    """The dict from the tuples of who holds each of some plots to how many truths of the Case have it so."""
    found = {(): truths_of(case).every}
    # As the names come in their order, plot by plot, the tuples do.
    for plot in plots:
        held = holding(case, plot, rule)
        found = {
            names + (name,): some & held[name] for names, some in found.items() for name in held if some & held[name]
        }
    return {names: many_in(some) for names, some in found.items()}


def sure_of_many(case, rule, name):
    """How many plots a name holds at least, whatever the truth."""
    return min([names.count(name) for names in joint(case, _all_plots(case), rule)])


def may_have(case, rule, name):
    """How many plots a name holds at most."""
    return max([names.count(name) for names in joint(case, _all_plots(case), rule)])


def sure_of_one(case, plots, rule, name):
    """Whether a name holds at least one of some plots in all truths."""
    return all([name in names for names in joint(case, plots, rule)])


def bound_plots(case, rule):
    """The ascending list of the tuples of two plots whose holders hang together."""
    some = _all_plots(case)
    return [(plot, other) for plot, other in combinations(some, 2) if _is_bound(case, rule, plot, other)]


def _is_bound(case, rule, plot, other):
    """Whether not each holder of the one plot goes with each of the other."""
    one, two = holding(case, plot, rule), holding(case, other, rule)
    return not all([some & elsewhere for some in one.values() for elsewhere in two.values()])


def _all_plots(case):
    return [plot for plot, _ in case.roll()[0]]
