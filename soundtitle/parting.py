"""Where two rules part: the truths in which they tell other holders of a plot."""

from soundtitle.layers import Counts, Lightest, by_key, led_on, way_of


def parted_many(case, plot, one, other):
    """How many truths of the Case two rules part in."""
    pairs = pairs_many(case, plot, one, other)
    return sum([many for (name, elsewhere), many in pairs.items() if name != elsewhere])


def parted_by(case, plot, one, other):
    """A truth in which two rules part with as few void doubts as can be, or None."""
    way = way_of(case, plot)
    kept = case.shelf(("parted", plot, one, other))
    if not kept:
        measure = Lightest(way)
        ends = _ends(way, one, other, measure)
        worths = [worth for (name, elsewhere), worth in ends.items() if name != elsewhere]
        kept.append(case.truth_with(measure.void_heads(min(worths))) if worths else None)
    return kept[0]


def pairs_many(case, plot, one, other):
    """The dict from the tuples of who holds the plot by the one rule and by the other to how many truths have it so."""
    way = way_of(case, plot)
    kept = case.shelf(("pairs", plot, one, other))
    if not kept:
        measure = Counts({head: (1, 1) for head in way.bits}, way.bound)
        ends = _ends(way, one, other, measure)
        kept.append({pair: sum(measure.by_voids(ends[pair], way.unasked(way.last))) for pair in ends})
    return {pair: kept[0][pair] for pair in kept[0]}


def _ends(way, one, other, measure):
    """The dict from the pairs of who holds the plot at the end to the worths of the truths that have it so."""
    one = _with_base_of(one, other)
    by_one = way.behind(one)
    by_other = way.behind(_with_base_of(other, one))
    layer = led_on(
        way, 0, way.last, {(way.first, way.first): {0: measure.start}},
        lambda place, pair, is_sound: (by_one(place, pair[0], is_sound), by_other(place, pair[1], is_sound)),
        measure,
    )
    return by_key(layer, measure, lambda pair: (pair[0][0], pair[1][0]))


def _with_base_of(rule, other):
    """A rule of the same doctrine; with "drawn", which never asks for the base, the base is that of the other rule.

    So it makes no pairs of its own, and all truths are led through fewer of them.
    """
    if rule[0] == "drawn":
        return (rule[0], other[1])
    return rule
