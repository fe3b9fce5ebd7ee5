"""The fewest void doubts by which a name holds a plot, or does not."""

from soundtitle.errors import NoHead
from soundtitle.graph import graph_of
from soundtitle.lots import has_head
from soundtitle.surely import least_of


def fewest(case, plot, rule):
    """The dict from the possible names to the least number of void doubts of a truth in which each holds the plot."""
    ends = graph_of(case, plot, rule).ends()
    return {name: least_of(ends[name]) for name in ends}


def least_truth(case, plot, rule, name):
    """A truth with as few void doubts as can be in which a name holds the plot, or None."""
    return graph_of(case, plot, rule).lightest(name, True)


def least_against(case, plot, rule, name):
    """A truth with as few void doubts as can be in which a name does not hold the plot, or None."""
    return graph_of(case, plot, rule).lightest(name, False)


def by_word(case, plot, rule, head, name):
    """In how many truths a name holds the plot in which a doubt is sound, and in which it is void."""
    graph = graph_of(case, plot, rule)
    if not has_head(case, head):
        raise NoHead(head)
    sound = _many_with_sound(case, plot, rule, graph, head).get(name, 0)
    return (sound, sum(graph.ends().get(name, [])) - sound)


def _many_with_sound(case, plot, rule, graph, head):
    """The dict from the names to how many truths in which a doubt is sound have them as the holder."""
    kept = case.shelf(("sound", plot, rule, head))
    if not kept:
        # A truth in which the doubt is void counts nothing.
        kept.append(graph.weighed({doubt[0]: (1, 0) if doubt[0] == head else (1, 1) for doubt in case.doubts()}))
    return kept[0]
