"""The lots of words that warrant a plot to a name."""

from soundtitle.errors import NoTruth
from soundtitle.lots import agrees, is_lot
from soundtitle.truths import holding, truths_of


def warrants(case, plot, rule, name):
    """The ascending list of the least warrants for a name."""
    held = holding(case, plot, rule).get(name, 0)
    kept = case.shelf(("warrants", plot, rule, name))
    if not kept:
        found = []
        truths = truths_of(case)
        _grow(truths, held, truths.heads, (), truths.every, found)
        kept.append(sorted(found))
    return list(kept[0])


def is_warrant(case, plot, rule, name, thing):
    """Whether a thing, any value, is a warrant for a name."""
    held = holding(case, plot, rule).get(name, 0)
    if not is_lot(case, thing):
        return False
    some = truths_of(case).agreeing(thing)
    return some != 0 and some & ~held == 0


def warrants_in(case, plot, rule, name, truth):
    """The ascending list of the least warrants with which a truth of the Case agrees."""
    found = warrants(case, plot, rule, name)
    if not case.is_truth(truth):
        raise NoTruth(truth)
    return [lot for lot in found if agrees(case, lot, truth)]


def shortest_in(case, plot, rule, name, truth):
    """How many words the shortest warrant with which a truth of the Case agrees has, or None."""
    return min([len(lot) for lot in warrants_in(case, plot, rule, name, truth)], default=None)


def _grow(truths, held, heads, lot, some, found):
    """Puts those least warrants to found that begin with a lot, with which some truths agree; heads are behind it."""
    if some & ~held == 0:
        # What has a warrant as its beginning is none of the least; other parts have to be asked.
        parts = [lot[:at] + lot[at + 1:] for at in range(len(lot))]
        if all([truths.agreeing(part) & ~held != 0 for part in parts]):
            found.append(lot)
    elif some & held != 0 and heads:
        _grow(truths, held, heads[1:], lot, some, found)
        for word in ("sound", "void"):
            part = truths.with_word(some, heads[0], word)
            if part:
                _grow(truths, held, heads[1:], lot + ((heads[0], word),), part, found)
