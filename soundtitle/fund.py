"""The claims of those who lose a plot by overrides."""

from soundtitle.layers import Marks, by_key, layer_behind, way_of
from soundtitle.rolls import names
from soundtitle.walks import is_loss, overrides


def claims(roll, plot, rule, truth):
    """The dict from the losers to how many claims they have in one truth."""
    losers = [loser for _, loser, _ in overrides(roll, plot, rule, truth)]
    return {name: losers.count(name) for name in sorted(set(losers))}


def most_claims(case, plot, rule):
    """The most claims of all persons together in a truth of the Case."""
    return _table(case, plot, rule)[0][-1]


def least_claims(case, plot, rule):
    """The least claims of all persons together in a truth of the Case."""
    return _table(case, plot, rule)[0][0]


def claims_most_of(case, plot, rule):
    """The dict from the names that have claims in some truth of the Case to the most that each has in one."""
    table = _table(case, plot, rule)
    return {name: row[-1] for name, row in zip(names(case.roll()), table[1:]) if row[-1] > 0}


def _table(case, plot, rule):
    """The table of how many claims there are in the truths of the Case, each row an ascending list.

    The first row is that of all persons together, and those behind it are each person's. It stays with the Case;
    nobody changes it.
    """
    way = way_of(case, plot)
    kept = case.shelf(("claims", plot, rule))
    if not kept:
        # A sale overrides once at most. Each row has a mark for each number of claims, and begins with that of none.
        size = len(set([deal[1] for deal in way.deals if deal is not None])) + 1
        ends = [size * at for at in range(len(names(case.roll())) + 1)]
        marks = Marks(way, size * len(ends), sum([1 << end for end in ends]))
        found = marks.told(_worth(case, way, rule, marks, size))
        kept.append([[mark - end for mark in found if end <= mark < end + size] for end in ends])
    return kept[0]


def _worth(case, way, rule, marks, size):
    """The worth of all truths, with the marks of how many claims they have."""
    every = marks.everywhere((1 << size) - 1)
    rows = {name: every | (every << (size * at)) for at, name in enumerate(names(case.roll()), 1)}
    layer = {way.first: {0: marks.start}}
    for place in range(way.last):
        layer = _claimed(layer_behind(way, place, layer, _with_loser(way, rule), marks), marks, rows)
    return by_key(layer, marks, lambda state: None)[None]


def _with_loser(way, rule):
    """What tells the tuple of the state behind a moment and of who loses the plot at it, or None."""
    by_rule = way.behind(rule)
    return lambda place, state, is_sound: (
        by_rule(place, state, is_sound), state[0] if is_loss(rule, way.deals[place], state, is_sound) else None
    )


def _claimed(layer, marks, rows):
    """The layer of states from that of tuples of a state and a loser, whose claims are one more."""
    found = {}
    for (state, loser), worths in layer.items():
        moved = [(mask, mask, worth) for mask, worth in worths.items()]
        if loser is not None:
            row = rows[loser]
            moved = [(mask, mask, (worth & ~row) | ((worth & row) << 1)) for mask, _, worth in moved]
        marks.put(found.setdefault(state, {}), moved)
    return found
