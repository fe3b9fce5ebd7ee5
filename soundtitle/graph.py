"""All truths of a plot at once, led through one small graph: each truth is one walk of it."""

from soundtitle.cases import Case
from soundtitle.errors import NoNode, NoPlace, NoPlot, NoTruth, Wrong
from soundtitle.forms import is_integer, is_name, is_rule
from soundtitle.lots import is_told, word_in
from soundtitle.moments import moments
from soundtitle.rolls import plots
from soundtitle.walks import deals, first_state, state_behind, states


class Branch:
    """A word that the paper of a moment may have there, and what it makes of the nodes ahead of the moment.

    The words of a node are kept as a mask: one bit for each open doubt that is void. How many choices of words lead to
    a node is kept as its tally: how many have 0, 1, 2 .. void doubts, packed into one integer, each number in as many
    bits as a count of all truths needs. So all these numbers are added by one sum, and one void doubt more is a shift.
    """

    def __init__(self, is_sound, word, asked, kept, added, shift):
        self.is_sound = is_sound
        self.word = word
        self.asked = asked
        self.kept = kept
        self.added = added
        self.shift = shift

    def moved(self, rows, limit):
        """The tuples (mask, mask behind, tally behind) for the masks of rows that let this word."""
        found = []
        wanted = 0 if self.is_sound else self.asked
        for mask, tally in rows.items():
            if (mask & self.asked) == wanted:
                # The limit cuts off what has more void doubts than the bound lets; nothing may be left.
                behind = (tally << self.shift) & limit
                if behind:
                    found.append((mask, (mask & self.kept) | self.added, behind))
        return found


class Graph:
    """The graph of all truths of a Case, for a plot and a rule."""

    def __init__(self, case, plot, rule):
        if not isinstance(case, Case):
            raise Wrong(0)
        if plot not in plots(case.roll()):
            raise Wrong(1)
        if not is_rule(rule):
            raise Wrong(2)
        self._case = case
        self._plot = plot
        self._rule = rule
        self._deals = deals(case.roll(), plot)
        self._numbers = [number for _, number, _ in moments(case.roll(), plot)]
        self._heads = [_head_of(case, number) for number in self._numbers]
        self._spans = _spans(self._heads)
        self._open_heads = [_heads_at(self._spans, place) for place in range(len(self._deals) + 1)]
        self._bits = {doubt[0]: 1 << at for at, doubt in enumerate(case.doubts())}
        self._width = len(self._bits) + 1
        self._limit = (1 << (self._width * (case.cap() + 1))) - 1
        # A layer is the dict from the states at a place to dicts from masks to tallies. It is made when it is needed.
        self._layers = case.shelf((plot, rule))
        if not self._layers:
            self._layers.append({first_state(case.roll(), plot): {0: 1}})

    def places(self):
        """How many places there are."""
        return len(self._open_heads)

    def open_at(self, place):
        """The ascending list of the heads of the doubts that are open at a place."""
        self._check_place(place)
        return list(self._open_heads[place])

    def nodes(self, place):
        """The ascending list of the nodes to which some truth of the Case comes at a place."""
        self._check_place(place)
        found = []
        for state, rows in self._layer(place).items():
            found.extend([self._node(place, state, mask) for mask in rows])
        return sorted(found)

    def steps(self, place):
        """The ascending list of the tuples (node, word, other) that lead from a place to the next one."""
        self._check_place(place)
        if place == len(self._deals):
            raise NoPlace(place)
        found = []
        for branch in self._branches(place):
            for state, rows in self._layer(place).items():
                behind = self._state_behind(place, branch, state)
                for mask, other, _ in branch.moved(rows, self._limit):
                    node = self._node(place, state, mask)
                    found.append((node, branch.word, self._node(place + 1, behind, other)))
        return sorted(found)

    def walk(self, truth):
        """The list of the nodes to which a truth comes, one for each place."""
        if not self._case.is_truth(truth):
            raise NoTruth(truth)
        line = states(self._case.roll(), self._plot, self._rule, truth)
        return [
            (state, tuple([(head, word_in(truth, head)) for head in heads]))
            for state, heads in zip(line, self._open_heads)
        ]

    def come(self, place, node):
        """How many truths of the Case come to a node at a place."""
        self._check_place(place)
        tally = self._tally(place, node)
        if tally == 0:
            raise NoNode(node)
        return sum(self._by_voids(place, tally))

    def ends(self):
        """The dict from the holders at the end to lists: in how many truths with 0, 1, 2 .. void doubts each is it."""
        place = len(self._deals)
        tallies = {}
        for state, rows in self._layer(place).items():
            tallies[state[0]] = tallies.get(state[0], 0) + sum(rows.values())
        return {name: self._by_voids(place, tallies[name]) for name in sorted(tallies)}

    def _check_place(self, place):
        if not is_integer(place) or not 0 <= place < len(self._open_heads):
            raise NoPlace(place)

    def _node(self, place, state, mask):
        heads = self._open_heads[place]
        return (state, tuple([(head, "void" if mask & self._bits[head] else "sound") for head in heads]))

    def _layer(self, place):
        while len(self._layers) <= place:
            self._layers.append(self._layer_behind(len(self._layers) - 1))
        return self._layers[place]

    def _layer_behind(self, place):
        found = {}
        for branch in self._branches(place):
            for state, rows in self._layers[place].items():
                moved = branch.moved(rows, self._limit)
                if moved:
                    into = found.setdefault(self._state_behind(place, branch, state), {})
                    for _, mask, tally in moved:
                        into[mask] = into.get(mask, 0) + tally
        return found

    def _state_behind(self, place, branch, state):
        return state_behind(self._rule, self._deals[place], state, branch.is_sound)

    def _branches(self, place):
        """The words that the moment behind a place lets."""
        head = self._heads[place]
        if head is None:
            is_sound = self._case.known()[self._numbers[place]] == "sound"
            return [Branch(is_sound, "", 0, -1, 0, 0)]
        bit = self._bits[head]
        first, last = self._spans[head]
        # Behind its last moment a doubt is open no more, and its bit goes.
        kept = -1 - bit if place == last else -1
        if place == first:
            added = 0 if place == last else bit
            return [Branch(True, "sound", 0, kept, 0, 0), Branch(False, "void", 0, kept, added, self._width)]
        return [Branch(True, "", bit, kept, 0, 0), Branch(False, "", bit, kept, 0, 0)]

    def _tally(self, place, node):
        """The tally of a node, any value, at a place: 0 if no truth comes to it there."""
        if not isinstance(node, tuple) or len(node) != 2 or not is_state(node[0]):
            return 0
        state, words = node
        if not isinstance(words, tuple) or not all([is_told(part) for part in words]):
            return 0
        if [head for head, _ in words] != self._open_heads[place]:
            return 0
        mask = sum([self._bits[head] for head, word in words if word == "void"])
        return self._layer(place).get(state, {}).get(mask, 0)

    def _by_voids(self, place, tally):
        """The list of how many truths with 0, 1 .. void doubts go on from a tally at a place."""
        told = [first for first, _ in self._spans.values() if first < place]
        for _ in range(len(self._bits) - len(told)):
            # One doubt more, of which nothing was asked up to here: it may be sound, or void.
            tally = (tally + (tally << self._width)) & self._limit
        slot = (1 << self._width) - 1
        return [(tally >> (self._width * voids)) & slot for voids in range(self._case.cap() + 1)]


def graph_of(case, plot, rule):
    """The graph of a Case, for a plot, any value, and a rule."""
    if plot not in plots(case.roll()):
        raise NoPlot(plot)
    return Graph(case, plot, rule)


def is_state(thing):
    """Whether a thing, any value, is a state by its form."""
    if not isinstance(thing, tuple) or len(thing) != 3 or not is_name(thing[0]) or not is_name(thing[1]):
        return False
    row = thing[2]
    if not isinstance(row, tuple) or not all([is_integer(number) and number >= 0 for number in row]):
        return False
    return len(set(row)) == len(row)


def _head_of(case, number):
    """The head of the doubt that a paper is in, or None if it is known."""
    doubt = case.doubt_of(number)
    if doubt is None:
        return None
    return doubt[0]


def _spans(heads):
    """The dict from the heads of all moments to the numbers, from 0 on, of the first and the last moment of each."""
    found = {}
    for at, head in enumerate(heads):
        if head is not None:
            found[head] = (found.get(head, (at, at))[0], at)
    return found


def _heads_at(spans, place):
    """The heads of the doubts that have a moment ahead of a place, and one behind it."""
    return sorted([head for head, (first, last) in spans.items() if first < place <= last])
