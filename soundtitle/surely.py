"""What is sure of a plot, and by how few void doubts it would not be."""

from soundtitle.graph import graph_of


def possible(case, plot, rule):
    """The ascending list of the names that hold the plot in some truth of the Case."""
    return list(graph_of(case, plot, rule).ends())


def is_sure(case, plot, rule, name):
    """Whether a name holds the plot in all truths of the Case."""
    return possible(case, plot, rule) == [name]


def sure_up_to(case, plot, rule, name):
    """The greatest number of void doubts up to which a name holds the plot in all truths, or None if it always does."""
    ends = graph_of(case, plot, rule).ends()
    elsewhere = [ends[other] for other in ends if other != name]
    if not elsewhere:
        return None
    return min([least_of(row) for row in elsewhere]) - 1


def least_of(row):
    """The least number of void doubts of some truths; row tells how many have 0, 1, 2 .. of them."""
    return min([voids for voids, many in enumerate(row) if many])
