"""All truths of a Case led at once through the moments of a plot.

A LAYER is the dict from the states at a place to dicts from masks to worths. A mask tells the words of the doubts that
are open there: it has one bit for each that is void. What a worth tells of the truths that come to a state and a mask
is known to its measure, which is one of the classes Counts, Marks and Lightest.
"""

from soundtitle.errors import NoPlot
from soundtitle.forms import is_integer, is_name
from soundtitle.lots import is_told
from soundtitle.moments import moments
from soundtitle.rolls import plots
from soundtitle.truths import members
from soundtitle.walks import deals, first_state, state_behind


class Branch:
    """A word that the paper of a moment may have there, and what it makes of the masks ahead of the moment.

    head is that of the doubt if the moment is the first one of all that its papers have, otherwise None.
    """

    def __init__(self, is_sound, head, asked, kept, added):
        self.is_sound = is_sound
        self.head = head
        self.word = ""
        if head is not None:
            self.word = "sound" if is_sound else "void"
        self.asked = asked
        self.wanted = 0 if is_sound else asked
        self.kept = kept
        self.added = added

    def moved(self, rows):
        """The list of the tuples (mask, mask behind, worth) for the masks of rows that let this word."""
        asked, wanted, kept, added = self.asked, self.wanted, self.kept, self.added
        return [
            (mask, (mask & kept) | added, worth) for mask, worth in rows.items() if (mask & asked) == wanted
        ]

    def moved_by(self, rows, weight, shift, limit):
        """The same, each worth being weighed and shifted; what the limit cuts off whole is left out."""
        found = []
        for mask, other, worth in self.moved(rows):
            behind = ((worth * weight) << shift) & limit
            if behind:
                found.append((mask, other, behind))
        return found


class Way:
    """The moments of a plot, and the doubts of a Case that are open between them. It never changes."""

    def __init__(self, case, plot):
        roll = case.roll()
        numbers = [number for _, number, _ in moments(roll, plot)]
        self.first = first_state(roll, plot)
        self.deals = deals(roll, plot)
        self.last = len(self.deals)
        self.bits = {doubt[0]: 1 << at for at, doubt in enumerate(case.doubts())}
        # Where all doubts may be void, no bound has to be asked.
        self.bound = case.cap() if case.cap() < len(self.bits) else None
        heads = [_head_of(case, number) for number in numbers]
        self._spans = _spans(heads)
        self.open_heads = [_heads_at(self._spans, place) for place in range(self.last + 1)]
        known = case.known()
        self.branches = [
            self._branches(place, head, known.get(number)) for place, (head, number) in enumerate(zip(heads, numbers))
        ]

    def behind(self, rule):
        """What tells, of a place, a state and whether the paper is sound, the state behind the next moment."""
        return lambda place, state, is_sound: state_behind(rule, self.deals[place], state, is_sound)

    def words(self, place, mask):
        """The lot of words that a mask tells."""
        return tuple([(head, "void" if mask & self.bits[head] else "sound") for head in self.open_heads[place]])

    def mask(self, words):
        """The mask that tells a lot of words."""
        return sum([self.bits[head] for head, word in words if word == "void"])

    def is_node(self, place, thing):
        """Whether a thing, any value, is by its form a node at a place: a state, and the words that are open there."""
        if not isinstance(thing, tuple) or len(thing) != 2 or not _is_state(thing[0]):
            return False
        words = thing[1]
        if not isinstance(words, tuple) or not all([is_told(part) for part in words]):
            return False
        return [head for head, _ in words] == self.open_heads[place]

    def nodes_behind(self, place, node, behind):
        """The list of the nodes behind one at a place, for all words that the next moment lets, whatever the bound."""
        state, words = node
        rows = {self.mask(words): 0}
        found = []
        for branch in self.branches[place]:
            for _, mask, _ in branch.moved(rows):
                found.append((behind(place, state, branch.is_sound), self.words(place + 1, mask)))
        return found

    def unasked(self, place):
        """The heads of the doubts that have no moment ahead of a place."""
        return [head for head in self.bits if head not in self._spans or self._spans[head][0] >= place]

    def _branches(self, place, head, word):
        """The branches of the moment behind a place: of a doubt with a head, or of a paper with a known word."""
        if head is None:
            return [Branch(word == "sound", None, 0, -1, 0)]
        bit = self.bits[head]
        first, last = self._spans[head]
        # Behind its last moment a doubt is open no more, and its bit goes.
        kept = -1 - bit if place == last else -1
        if place == first:
            added = 0 if place == last else bit
            return [Branch(True, head, 0, kept, 0), Branch(False, head, 0, kept, added)]
        return [Branch(True, None, bit, kept, 0), Branch(False, None, bit, kept, 0)]


class Counts:
    """Worths that tell how much the truths count. A truth counts as the product of the weights of its words.

    weights is the dict from the heads of all doubts to tuples of that of "sound" and that of "void". A worth tells how
    much the truths with 0, 1, 2 .. void doubts come to, packed into one integer, each number in as many bits as that of
    all truths needs. So all these numbers are added by one sum, and one void doubt more is a shift. Without a most
    nothing is cut off by a bound, and one number for all truths is enough.
    """

    def __init__(self, weights, most):
        self.start = 1
        self.weights = weights
        if most is None:
            self.width = 0
            self.limit = -1
        else:
            whole = 1
            for sound, void in weights.values():
                whole = whole * (sound + void)
            self.width = whole.bit_length()
            self.limit = (1 << (self.width * (most + 1))) - 1

    def moved(self, branch, rows):
        if branch.head is None:
            return branch.moved(rows)
        sound, void = self.weights[branch.head]
        if branch.is_sound:
            return branch.moved_by(rows, sound, 0, self.limit)
        return branch.moved_by(rows, void, self.width, self.limit)

    def put(self, into, moved):
        for _, mask, worth in moved:
            into[mask] = into.get(mask, 0) + worth

    def by_voids(self, worth, heads):
        """The list of how much the truths with 0, 1, 2 .. void doubts come to, or the one number for all.

        heads are those of the doubts of which nothing was asked; each may be sound, or void.
        """
        for head in heads:
            sound, void = self.weights[head]
            worth = (worth * sound + ((worth * void) << self.width)) & self.limit
        if self.width == 0:
            return [worth]
        slot = (1 << self.width) - 1
        return [(worth >> at) & slot for at in range(0, self.limit.bit_length(), self.width)]


class Marks:
    """Worths that tell which marks the truths have, of so many: one bit for each number of void doubts and each mark.

    What nobody asks is taken to be sound, which any bound lets.
    """

    def __init__(self, way, many, start):
        self.start = start
        self.many = many
        self.shift = 0 if way.bound is None else many
        self.limit = -1 if way.bound is None else (1 << (many * (way.bound + 1))) - 1

    def moved(self, branch, rows):
        if branch.head is None or branch.is_sound:
            return branch.moved(rows)
        return branch.moved_by(rows, 1, self.shift, self.limit)

    def put(self, into, moved):
        for _, mask, worth in moved:
            into[mask] = into.get(mask, 0) | worth

    def everywhere(self, bits):
        """Some bits of marks, for each number of void doubts."""
        if self.shift == 0:
            return bits
        return sum([bits << at for at in range(0, self.limit.bit_length(), self.many)])

    def told(self, worth):
        """The ascending list of the marks that some truths have."""
        return sorted(set([at % self.many for at in members(worth)]))


class Lightest:
    """Worths that tell a truth with as few void doubts as can be: above the bits of these, how many they are."""

    def __init__(self, way):
        self.start = 0
        self._bits = way.bits
        most = len(way.bits) if way.bound is None else way.bound
        self._limit = (most + 1) << len(way.bits)

    def moved(self, branch, rows):
        if branch.head is None or branch.is_sound:
            return branch.moved(rows)
        more = (1 << len(self._bits)) + self._bits[branch.head]
        return [
            (mask, other, worth + more) for mask, other, worth in branch.moved(rows) if worth + more < self._limit
        ]

    def put(self, into, moved):
        for _, mask, worth in moved:
            into[mask] = min(worth, into.get(mask, worth))

    def void_heads(self, worth):
        """The heads of the void doubts."""
        return [head for head in self._bits if worth & self._bits[head]]


def way_of(case, plot):
    """The Way of a plot, any value. It stays with the Case."""
    if plot not in plots(case.roll()):
        raise NoPlot(plot)
    kept = case.shelf(("way", plot))
    if not kept:
        kept.append(Way(case, plot))
    return kept[0]


def layer_behind(way, place, layer, behind, measure):
    """The layer behind the next moment of a place, behind(place, state, is_sound) telling the states there."""
    found = {}
    for branch in way.branches[place]:
        for state, rows in layer.items():
            moved = measure.moved(branch, rows)
            if moved:
                measure.put(found.setdefault(behind(place, state, branch.is_sound), {}), moved)
    return found


def led_on(way, start, end, layer, behind, measure):
    """The layer at the place end, from that at the place start."""
    for place in range(start, end):
        layer = layer_behind(way, place, layer, behind, measure)
    return layer


def by_key(layer, measure, key):
    """The dict from what key tells of the states of a layer to the worths of all that come to such states."""
    found = {}
    for state, rows in layer.items():
        # Worths that stand beside one another are put together as if their masks were alike.
        into = found.setdefault(key(state), {})
        measure.put(into, [(0, 0, worth) for worth in rows.values()])
    return {told: found[told][0] for told in sorted(found)}


def _is_state(thing):
    if not isinstance(thing, tuple) or len(thing) != 3 or not is_name(thing[0]) or not is_name(thing[1]):
        return False
    row = thing[2]
    if not isinstance(row, tuple) or not all([is_integer(number) and number >= 0 for number in row]):
        return False
    return len(set(row)) == len(row)


def _head_of(case, number):
    """The head of the doubt that a paper is in, or None if it is known."""
    doubt = case.doubt_of(number)
    if doubt is None:
        return None
    return doubt[0]


def _spans(heads):
    """The dict from the heads of all moments to the numbers, from 0 on, of the first and the last moment of each."""
    found = {}
    for at, head in enumerate(heads):
        if head is not None:
            found[head] = (found.get(head, (at, at))[0], at)
    return found


def _heads_at(spans, place):
    """The heads of the doubts that have a moment ahead of a place, and one behind it."""
    return sorted([head for head, (first, last) in spans.items() if first < place <= last])
