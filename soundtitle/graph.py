"""All truths of a plot at once, led through one small graph: each truth is one walk of it."""

from soundtitle.cases import Case
from soundtitle.errors import NoNode, NoPlace, NoPlot, NoTruth, Wrong
from soundtitle.forms import is_integer, is_name, is_rule
from soundtitle.lots import is_told, word_in
from soundtitle.moments import moments
from soundtitle.rolls import plots
from soundtitle.walks import deals, first_state, state_behind, states


class Measure:
    """By what the choices of words are counted that lead to a node.

    A choice counts as the product of the weights of its words; weights is the dict from the heads of all doubts to
    tuples of that of "sound" and that of "void". The tally of a node tells how much the choices with 0, 1, 2 .. void
    doubts come to, packed into one integer, each number in as many bits as that of all choices needs. So all these
    numbers are added by one sum, and one void doubt more is a shift.
    """

    def __init__(self, weights, most):
        self.weights = weights
        if most is None:
            # Nothing is cut off by a bound: one number for all choices is enough.
            self.width = 0
            self.limit = -1
        else:
            whole = 1
            for sound, void in weights.values():
                whole = whole * (sound + void)
            self.width = whole.bit_length()
            self.limit = (1 << (self.width * (most + 1))) - 1

    def with_doubt(self, tally, head):
        """A tally with one doubt more, that may be sound, or void."""
        sound, void = self.weights[head]
        return (tally * sound + ((tally * void) << self.width)) & self.limit

    def by_voids(self, tally):
        """The list of how much the choices with 0, 1, 2 .. void doubts come to, or the one number for all."""
        if self.width == 0:
            return [tally]
        slot = (1 << self.width) - 1
        return [(tally >> at) & slot for at in range(0, self.limit.bit_length(), self.width)]

    def least_voids(self, tally):
        """The least number of void doubts of which a tally, not 0, tells."""
        return ((tally & -tally).bit_length() - 1) // self.width


class Branch:
    """A word that the paper of a moment may have there, and what it makes of the nodes ahead of the moment.

    The words of a node are kept as a mask: one bit for each open doubt that is void.
    """

    def __init__(self, is_sound, word, asked, kept, added, weight):
        self.is_sound = is_sound
        self.word = word
        self.wanted = 0 if is_sound else asked
        self.asked = asked
        self.kept = kept
        self.added = added
        self.weight = weight

    def moved(self, rows, measure):
        """The tuples (mask, mask behind, tally behind) for the masks of rows that let this word."""
        shift = measure.width if self.word == "void" else 0
        limit = measure.limit
        found = []
        for mask, tally in rows.items():
            if (mask & self.asked) == self.wanted:
                # The limit cuts off what has more void doubts than the bound lets; nothing may be left.
                behind = ((tally * self.weight) << shift) & limit
                if behind:
                    found.append((mask, (mask & self.kept) | self.added, behind))
        return found

    def ahead(self, mask):
        """The mask ahead of the moment that becomes a mask by this word, or None."""
        before = (mask & (-1 - self.added)) | self.wanted
        if (before & self.asked) != self.wanted or ((before & self.kept) | self.added) != mask:
            return None
        return before


class Graph:
    """The graph of all truths of a Case, for a plot and a rule."""

    def __init__(self, case, plot, rule):
        if not isinstance(case, Case):
            raise Wrong(0)
        if plot not in plots(case.roll()):
            raise Wrong(1)
        if not is_rule(rule):
            raise Wrong(2)
        self._case = case
        self._plot = plot
        self._rule = rule
        self._deals = deals(case.roll(), plot)
        self._numbers = [number for _, number, _ in moments(case.roll(), plot)]
        self._heads = [_head_of(case, number) for number in self._numbers]
        self._spans = _spans(self._heads)
        self._open_heads = [_heads_at(self._spans, place) for place in range(len(self._deals) + 1)]
        self._bits = {doubt[0]: 1 << at for at, doubt in enumerate(case.doubts())}
        self._one_each = Measure({head: (1, 1) for head in self._bits}, case.cap())
        self._layers = _layers_of(case, plot, rule)

    def places(self):
        """How many places there are."""
        return len(self._open_heads)

    def open_at(self, place):
        """The ascending list of the heads of the doubts that are open at a place."""
        self._check_place(place)
        return list(self._open_heads[place])

    def nodes(self, place):
        """The ascending list of the nodes to which some truth of the Case comes at a place."""
        self._check_place(place)
        found = []
        for state, rows in self._layer(place).items():
            found.extend([self._node(place, state, mask) for mask in rows])
        return sorted(found)

    def steps(self, place):
        """The ascending list of the tuples (node, word, other) that lead from a place to the next one."""
        self._check_place(place)
        if place == len(self._deals):
            raise NoPlace(place)
        found = []
        for branch in self._branches(place, self._one_each):
            for state, rows in self._layer(place).items():
                behind = self._state_behind(place, branch, state)
                for mask, other, _ in branch.moved(rows, self._one_each):
                    node = self._node(place, state, mask)
                    found.append((node, branch.word, self._node(place + 1, behind, other)))
        return sorted(found)

    def walk(self, truth):
        """The list of the nodes to which a truth comes, one for each place."""
        if not self._case.is_truth(truth):
            raise NoTruth(truth)
        line = states(self._case.roll(), self._plot, self._rule, truth)
        return [
            (state, tuple([(head, word_in(truth, head)) for head in heads]))
            for state, heads in zip(line, self._open_heads)
        ]

    def come(self, place, node):
        """How many truths of the Case come to a node at a place."""
        self._check_place(place)
        tally = self._tally(place, node)
        if tally == 0:
            raise NoNode(node)
        return sum(self._by_voids(place, tally, self._one_each))

    def ends(self):
        """The dict from the holders at the end to lists: in how many truths with 0, 1, 2 .. void doubts each is it.

        It stays with the Case; nobody changes it.
        """
        kept = self._case.shelf(("numbers", self._plot, self._rule))
        if not kept:
            kept.append(self._by_holders(self._layer(len(self._deals)), self._one_each))
        return kept[0]

    def weighed(self, weights):
        """The dict from the holders at the end to the sums of what the truths count in which each is it.

        A truth counts as the product of what its words do; weights is the dict from the heads of all doubts to tuples
        of what "sound" and "void" count. Names with a sum of 0 may be left out.
        """
        cap = self._case.cap()
        measure = Measure(weights, None if cap == len(self._bits) else cap)
        layer = self._layers[0]
        for place in range(len(self._deals)):
            layer = self._layer_behind(place, layer, measure)
        found = self._by_holders(layer, measure)
        return {name: sum(found[name]) for name in found}

    def lightest(self, some):
        """The heads of the void doubts of a truth with as few of them as can be in which one of some names holds.

        None if there is no such truth.
        """
        place = len(self._deals)
        # At the end no doubt is open, and the only mask is 0.
        layer = self._layer(place)
        ends = [(self._one_each.least_voids(layer[state][0]), state) for state in layer if state[0] in some]
        if not ends:
            return None
        _, state = min(ends)
        mask = 0
        found = []
        for at in reversed(range(place)):
            word, state, mask = self._ahead(at, state, mask)
            if word == "void":
                found.append(self._heads[at])
        return found

    def _check_place(self, place):
        if not is_integer(place) or not 0 <= place < len(self._open_heads):
            raise NoPlace(place)

    def _node(self, place, state, mask):
        heads = self._open_heads[place]
        return (state, tuple([(head, "void" if mask & self._bits[head] else "sound") for head in heads]))

    def _layer(self, place):
        while len(self._layers) <= place:
            last = len(self._layers) - 1
            self._layers.append(self._layer_behind(last, self._layers[last], self._one_each))
        return self._layers[place]

    def _layer_behind(self, place, layer, measure):
        found = {}
        for branch in self._branches(place, measure):
            for state, rows in layer.items():
                moved = branch.moved(rows, measure)
                if moved:
                    into = found.setdefault(self._state_behind(place, branch, state), {})
                    for _, mask, tally in moved:
                        into[mask] = into.get(mask, 0) + tally
        return found

    def _ahead(self, place, state, mask):
        """The tuple (word, state, mask) of a step to a state and a mask, by as few void doubts as can be."""
        found = []
        for branch in self._branches(place, self._one_each):
            before = branch.ahead(mask)
            more = 1 if branch.word == "void" else 0
            for other, rows in self._layer(place).items():
                if before in rows and self._state_behind(place, branch, other) == state:
                    found.append((self._one_each.least_voids(rows[before]) + more, branch.word, other, before))
        return min(found)[1:]

    def _state_behind(self, place, branch, state):
        return state_behind(self._rule, self._deals[place], state, branch.is_sound)

    def _branches(self, place, measure):
        """The words that the moment behind a place lets."""
        head = self._heads[place]
        if head is None:
            is_sound = self._case.known()[self._numbers[place]] == "sound"
            return [Branch(is_sound, "", 0, -1, 0, 1)]
        bit = self._bits[head]
        first, last = self._spans[head]
        # Behind its last moment a doubt is open no more, and its bit goes.
        kept = -1 - bit if place == last else -1
        if place == first:
            added = 0 if place == last else bit
            sound, void = measure.weights[head]
            return [Branch(True, "sound", 0, kept, 0, sound), Branch(False, "void", 0, kept, added, void)]
        return [Branch(True, "", bit, kept, 0, 1), Branch(False, "", bit, kept, 0, 1)]

    def _tally(self, place, node):
        """The tally of a node, any value, at a place: 0 if no truth comes to it there."""
        if not isinstance(node, tuple) or len(node) != 2 or not is_state(node[0]):
            return 0
        state, words = node
        if not isinstance(words, tuple) or not all([is_told(part) for part in words]):
            return 0
        if [head for head, _ in words] != self._open_heads[place]:
            return 0
        mask = sum([self._bits[head] for head, word in words if word == "void"])
        return self._layer(place).get(state, {}).get(mask, 0)

    def _by_holders(self, layer, measure):
        """The dict from the holders in the last layer to what its tallies tell, void doubts by void doubts."""
        tallies = {}
        for state, rows in layer.items():
            tallies[state[0]] = tallies.get(state[0], 0) + sum(rows.values())
        return {name: self._by_voids(len(self._deals), tallies[name], measure) for name in sorted(tallies)}

    def _by_voids(self, place, tally, measure):
        """What a tally at a place tells of the truths that go on from it, void doubts by void doubts."""
        for head in self._bits:
            # Of these doubts nothing was asked up to here.
            if head not in self._spans or self._spans[head][0] >= place:
                tally = measure.with_doubt(tally, head)
        return measure.by_voids(tally)


def _layers_of(case, plot, rule):
    """The list of the layers of a graph, that of the first place at least.

    A layer is the dict from the states at a place to dicts from masks to tallies. It is made when it is needed. Layers
    may be large: those of the last plot and rule alone stay with the Case.
    """
    kept = case.shelf(("graph",))
    if not kept or kept[0] != (plot, rule):
        kept[:] = [(plot, rule), [{first_state(case.roll(), plot): {0: 1}}]]
    return kept[1]


def graph_of(case, plot, rule):
    """The graph of a Case, for a plot, any value, and a rule."""
    if plot not in plots(case.roll()):
        raise NoPlot(plot)
    return Graph(case, plot, rule)


def is_state(thing):
    """Whether a thing, any value, is a state by its form."""
    if not isinstance(thing, tuple) or len(thing) != 3 or not is_name(thing[0]) or not is_name(thing[1]):
        return False
    row = thing[2]
    if not isinstance(row, tuple) or not all([is_integer(number) and number >= 0 for number in row]):
        return False
    return len(set(row)) == len(row)


def _head_of(case, number):
    """The head of the doubt that a paper is in, or None if it is known."""
    doubt = case.doubt_of(number)
    if doubt is None:
        return None
    return doubt[0]


def _spans(heads):
    """The dict from the heads of all moments to the numbers, from 0 on, of the first and the last moment of each."""
    found = {}
    for at, head in enumerate(heads):
        if head is not None:
            found[head] = (found.get(head, (at, at))[0], at)
    return found


def _heads_at(spans, place):
    """The heads of the doubts that have a moment ahead of a place, and one behind it."""
    return sorted([head for head, (first, last) in spans.items() if first < place <= last])
