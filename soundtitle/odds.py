"""How likely each name holds a plot, each doubt being void with a likelihood of its own. Fractions are tuples."""

from math import gcd

from soundtitle.errors import Unlikely
from soundtitle.graph import graph_of


def chance(case, shares):
    """How likely it is that the words of all doubts are those of some truth of the Case."""
    cap = case.cap()
    # Of each number of void doubts that the bound lets: what the choices with so many come to.
    row = [1] + [0] * cap
    whole = 1
    for sound, void in weights_of(shares).values():
        row = [one * sound + ahead * void for one, ahead in zip(row, [0] + row)]
        whole = whole * (sound + void)
    return fraction(sum(row), whole)


def odds(case, plot, rule, shares):
    """The dict from all names that may hold the plot to how likely each is."""
    graph = graph_of(case, plot, rule)
    found = graph.weighed(weights_of(shares))
    whole = sum(found.values())
    if whole == 0:
        raise Unlikely()
    return {name: fraction(found.get(name, 0), whole) for name in graph.ends()}


def added(one, other):
    return fraction(one[0] * other[1] + other[0] * one[1], one[1] * other[1])


def times(one, other):
    return fraction(one[0] * other[0], one[1] * other[1])


def over(one, other):
    return fraction(one[0] * other[1], one[1] * other[0])


def fraction(top, bottom):
    """The fraction of two integers, in lowest terms."""
    common = gcd(top, bottom)
    return (top // common, bottom // common)


def weights_of(shares):
    """The dict from the heads to tuples of integers that are to each other as "sound" and "void" are likely."""
    return {head: (bottom - top, top) for head, (top, bottom) in shares.items()}
