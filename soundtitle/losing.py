"""The truths in which a name does not hold a plot, and what brings its title back."""

from soundtitle.truths import holding, truths_of


def losing(case, plot, rule, name):
    """The ascending list of the truths in which a name does not hold the plot."""
    held = _held(case, plot, rule, name)
    truths = truths_of(case)
    return truths.told(truths.every & ~held)


def least_losing(case, plot, rule, name):
    """The ascending list of the losing truths of which no lesser part is one."""
    held = _held(case, plot, rule, name)
    truths = truths_of(case)
    return [truths.rows[at] for at in truths.least(truths.every & ~held)]


def brought_back(case, plot, rule, name):
    """The ascending list of the tuples of a least losing truth, and of a least one with it as a part that does not."""
    held = _held(case, plot, rule, name)
    truths = truths_of(case)
    found = []
    for one in truths.least(truths.every & ~held):
        for other in truths.least(held & truths.above(one)):
            found.append((truths.rows[one], truths.rows[other]))
    return found


def _held(case, plot, rule, name):
    """The set of the truths in which a name holds the plot."""
    return holding(case, plot, rule).get(name, 0)
