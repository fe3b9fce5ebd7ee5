"""In how many truths each name holds a plot."""

from soundtitle.graph import graph_of


def numbers(case, plot, rule):
    """The dict from the tuples (name, many) to how many truths have this holder and so many void doubts."""
    ends = graph_of(case, plot, rule).ends()
    return {(name, many): ends[name][many] for name in ends for many in range(len(ends[name])) if ends[name][many]}


def holders_many(case, plot, rule):
    """The dict from the names to how many truths have them as the holder."""
    ends = graph_of(case, plot, rule).ends()
    return {name: sum(ends[name]) for name in ends}
