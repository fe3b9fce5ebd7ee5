"""All truths of a plot at once, led through one small graph: each truth is one walk of it."""

from soundtitle.cases import Case
from soundtitle.errors import NoNode, NoPlace, NoPlot, NoTruth, Wrong
from soundtitle.forms import is_integer, is_rule
from soundtitle.layers import Counts, Lightest, by_key, layer_behind, led_on, way_of
from soundtitle.lots import word_in
from soundtitle.rolls import plots
from soundtitle.walks import states


class Graph:
    """The graph of all truths of a Case, for a plot and a rule."""

    def __init__(self, case, plot, rule):
        if not isinstance(case, Case):
            raise Wrong(0)
        if plot not in plots(case.roll()):
            raise Wrong(1)
        if not is_rule(rule):
            raise Wrong(2)
        self._case = case
        self._plot = plot
        self._rule = rule
        self._way = way_of(case, plot)
        self._behind = self._way.behind(rule)
        self._counts = Counts({head: (1, 1) for head in self._way.bits}, case.cap())
        self._layers = self._kept_layers()

    def places(self):
        """How many places there are."""
        return self._way.last + 1

    def open_at(self, place):
        """The ascending list of the heads of the doubts that are open at a place."""
        self._check_place(place)
        return list(self._way.open_heads[place])

    def nodes(self, place):
        """The ascending list of the nodes to which some truth of the Case comes at a place."""
        self._check_place(place)
        words = {}
        found = []
        for state, rows in self._layer(place).items():
            for mask in rows:
                if mask not in words:
                    words[mask] = self._way.words(place, mask)
                found.append((state, words[mask]))
        return sorted(found)

    def steps(self, place):
        """The ascending list of the tuples (node, word, other) that lead from a place to the next one."""
        self._check_place(place)
        if place == self._way.last:
            raise NoPlace(place)
        found = []
        for branch in self._way.branches[place]:
            for state, rows in self._layer(place).items():
                behind = self._behind(place, state, branch.is_sound)
                for mask, other, _ in self._counts.moved(branch, rows):
                    node = (state, self._way.words(place, mask))
                    found.append((node, branch.word, (behind, self._way.words(place + 1, other))))
        return sorted(found)

    def walk(self, truth):
        """The list of the nodes to which a truth comes, one for each place."""
        if not self._case.is_truth(truth):
            raise NoTruth(truth)
        line = states(self._case.roll(), self._plot, self._rule, truth)
        return [
            (state, tuple([(head, word_in(truth, head)) for head in heads]))
            for state, heads in zip(line, self._way.open_heads)
        ]

    def come(self, place, node):
        """How many truths of the Case come to a node at a place."""
        self._check_place(place)
        worth = 0
        if self._way.is_node(place, node):
            worth = self._layer(place).get(node[0], {}).get(self._way.mask(node[1]), 0)
        if worth == 0:
            raise NoNode(node)
        return sum(self._counts.by_voids(worth, self._way.unasked(place)))

    def ends(self):
        """The dict from the holders at the end to lists: in how many truths with 0, 1, 2 .. void doubts each is it.

        Nobody changes it.
        """
        return self._end()[1]

    def last_states(self):
        """The ascending list of the states at the last place; nobody changes it. No doubt is open there."""
        return self._end()[0]

    def weighed(self, weights):
        """The dict from the holders at the end to the sums of what the truths count in which each is it.

        A truth counts as the product of what its words do; weights is the dict from the heads of all doubts to tuples
        of what "sound" and "void" count. Names with a sum of 0 may be left out.
        """
        measure = Counts(weights, self._way.bound)
        found = self._by_holders(self._led(measure), measure)
        return {name: sum(found[name]) for name in found}

    def lightest(self, name, is_holder):
        """A truth with as few void doubts as can be in which a name is the holder, or is not, or None."""
        measure = Lightest(self._way)
        kept = self._case.shelf(("lightest", self._plot, self._rule))
        if not kept:
            kept.append(by_key(self._led(measure), measure, lambda state: state[0]))
        worths = [worth for other, worth in kept[0].items() if (other == name) == is_holder]
        if not worths:
            return None
        return self._case.truth_with(measure.void_heads(min(worths)))

    def _check_place(self, place):
        if not is_integer(place) or not 0 <= place <= self._way.last:
            raise NoPlace(place)

    def _kept_layers(self):
        """The list of the layers, that of the first place at least; they are made when nodes are asked for.

        Layers may be large: those of the last plot and rule alone stay with the Case.
        """
        kept = self._case.shelf(("layers",))
        asked = (self._plot, self._rule)
        if not kept or kept[0] != asked:
            kept[:] = [asked, [{self._way.first: {0: self._counts.start}}]]
        return kept[1]

    def _end(self):
        """The tuple of the states at the last place and of what the truths come to there. It stays with the Case."""
        kept = self._case.shelf(("end", self._plot, self._rule))
        if not kept:
            # None of the layers is kept for this.
            layer = self._led(self._counts)
            kept.append((sorted(layer), self._by_holders(layer, self._counts)))
        return kept[0]

    def _layer(self, place):
        while len(self._layers) <= place:
            last = len(self._layers) - 1
            self._layers.append(layer_behind(self._way, last, self._layers[last], self._behind, self._counts))
        return self._layers[place]

    def _led(self, measure):
        """The layer at the last place."""
        return led_on(self._way, 0, self._way.last, {self._way.first: {0: measure.start}}, self._behind, measure)

    def _by_holders(self, layer, measure):
        """The dict from the holders in the last layer to what its worths tell, void doubts by void doubts."""
        worths = by_key(layer, measure, lambda state: state[0])
        heads = self._way.unasked(self._way.last)
        return {name: measure.by_voids(worths[name], heads) for name in worths}


def graph_of(case, plot, rule):
    """The graph of a Case, for a plot, any value, and a rule."""
    if plot not in plots(case.roll()):
        raise NoPlot(plot)
    return Graph(case, plot, rule)
