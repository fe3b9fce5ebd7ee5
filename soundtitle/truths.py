"""All truths of a Case by themselves, for what is told of each of them.

A set of truths is kept in one integer: its bits tell the places of its members in the ascending list of all truths.
"""

from soundtitle.errors import NoPlot
from soundtitle.rolls import plots
from soundtitle.walks import deals, first_state, state_behind


class Truths:
    """The truths of a Case, with the sets of those in which a paper is void."""

    def __init__(self, case):
        self.rows = case.truths()
        self.every = (1 << len(self.rows)) - 1
        self.heads = [doubt[0] for doubt in case.doubts()]
        self._of_heads = {head: 0 for head in self.heads}
        for at, row in enumerate(self.rows):
            for number in row:
                if number in self._of_heads:
                    self._of_heads[number] = self._of_heads[number] | (1 << at)
        self.void_in = [self._with_void(case, number) for number in range(len(case.roll()[1]))]
        self._alike = [0] * (case.cap() + 1)
        for at, row in enumerate(self.rows):
            many = len([head for head in self.heads if head in row])
            self._alike[many] = self._alike[many] | (1 << at)

    def agreeing(self, lot):
        """The set of the truths that agree with a lot."""
        some = self.every
        for head, word in lot:
            some = self.with_word(some, head, word)
        return some

    def with_word(self, some, head, word):
        """The members of a set in which a doubt has a word."""
        if word == "void":
            return some & self._of_heads[head]
        return some & ~self._of_heads[head]

    def above(self, at):
        """The set of the truths of which the one at a place is a part."""
        return self.agreeing([(head, "void") for head in self.heads if head in self.rows[at]])

    def least(self, some):
        """The ascending list of the places of the members of a set of which no lesser part is a member."""
        found = []
        for alike in self._alike:
            # Of those with as many void doubts none is a part of another.
            places = members(some & alike)
            for at in places:
                some = some & ~self.above(at)
            found.extend(places)
        return sorted(found)

    def told(self, some):
        """The ascending list of the members of a set."""
        return [self.rows[at] for at in members(some)]

    def _with_void(self, case, number):
        doubt = case.doubt_of(number)
        if doubt is not None:
            return self._of_heads[doubt[0]]
        return self.every if case.known()[number] == "void" else 0


def truths_of(case):
    """The Truths of a Case; nobody changes them."""
    kept = case.shelf(("truths",))
    if not kept:
        kept.append(Truths(case))
    return kept[0]


def holding(case, plot, rule):
    """The dict from the names that may hold a plot, any value, to the sets of truths; nobody changes it."""
    if plot not in plots(case.roll()):
        raise NoPlot(plot)
    kept = case.shelf(("holding", plot, rule))
    if not kept:
        truths = truths_of(case)
        kept.append(holding_in(case.roll(), plot, rule, truths.every, truths.void_in))
    return kept[0]


def holding_in(roll, plot, rule, every, void_in):
    """The dict from the names that may hold a plot to the sets of truths.

    every is the set of all truths, and void_in the list of the sets in which each paper of the roll is void.
    """
    steps = [(void_in[deal[1]], deal) for deal in deals(roll, plot) if deal is not None]
    layer = led({first_state(roll, plot): every}, steps, lambda deal, state, is_sound: (
        state_behind(rule, deal, state, is_sound)
    ))
    found = {}
    for state, some in layer.items():
        found[state[0]] = found.get(state[0], 0) | some
    return {name: found[name] for name in sorted(found)}


def led(layer, steps, behind):
    """The dict from states to sets of truths that a layer, such a dict, becomes by steps.

    A step is a tuple of the set in which its paper is void, and of what behind asks of it; behind(asked, state,
    is_sound) tells the state behind a step.
    """
    for void, asked in steps:
        found = {}
        for state, some in layer.items():
            for is_sound, part in ((True, some & ~void), (False, some & void)):
                if part:
                    other = behind(asked, state, is_sound)
                    found[other] = found.get(other, 0) | part
        layer = found
    return layer


def members(some):
    """The ascending list of the places that a set tells."""
    signs = f"{some:b}"
    return [at for at, sign in enumerate(signs[::-1]) if sign == "1"]


def many_in(some):
    """How many members a set has."""
    return f"{some:b}".count("1")
