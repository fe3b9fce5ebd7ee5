"""Extracts: lists of nodes that show by themselves that a name is sure of a plot, whatever the bound."""

from soundtitle.cases import Case
from soundtitle.errors import NoPlace
from soundtitle.forms import is_integer
from soundtitle.graph import graph_of
from soundtitle.layers import way_of


def extract(case, plot, rule, name):
    """The extract for a name of those nodes alone that have to stand in it, or None if there is none."""
    graph = graph_of(_without_bound(case), plot, rule)
    if list(graph.ends()) != [name]:
        return None
    return [graph.nodes(place) for place in range(graph.places())]


def is_extract(case, plot, rule, name, thing):
    """Whether a thing, any value, is an extract for a name."""
    way = way_of(case, plot)
    if not isinstance(thing, list) or len(thing) != way.last + 1:
        return False
    for place, nodes in enumerate(thing):
        if not isinstance(nodes, list) or not all([way.is_node(place, node) for node in nodes]):
            return False
    if (way.first, ()) not in thing[0] or not all([state[0] == name for state, _ in thing[way.last]]):
        return False
    return all([_leads_on(way, rule, place, thing[place], thing[place + 1]) for place in range(way.last)])


def behind(case, plot, rule, place, node):
    """The ascending list of the nodes behind a node at a place, by all words that are let."""
    way = way_of(case, plot)
    if not is_integer(place) or not 0 <= place < way.last:
        raise NoPlace(place)
    return sorted(set(way.nodes_behind(place, node, way.behind(rule))))


def _without_bound(case):
    """The Case with the same roll, known words and groups, and no bound. It stays with the Case."""
    if case.most() is None:
        return case
    kept = case.shelf(("free",))
    if not kept:
        kept.append(Case(case.roll(), case.known(), case.groups(), None))
    return kept[0]


def _leads_on(way, rule, place, nodes, others):
    """Whether the nodes behind some nodes at a place all stand among others."""
    known = set(others)
    by_rule = way.behind(rule)
    for node in nodes:
        for other in way.nodes_behind(place, node, by_rule):
            if other not in known:
                return False
    return True
