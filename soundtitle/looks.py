"""How many doubts have to be looked at, each next one chosen by the words found, until it is settled who holds."""

from soundtitle.errors import Unlikely
from soundtitle.odds import fraction, weights_of
from soundtitle.surely import possible
from soundtitle.truths import holding, members, truths_of


class Looks:
    """What looks come to. The truths that are left by the words found are a set, as in soundtitle.truths."""

    def __init__(self, case, plot, rule):
        self.held = holding(case, plot, rule)
        self.whole = truths_of(case)
        self._fewest = {}

    def name_in(self, some):
        """Who holds the plot in all members of a set, or None if that is not settled."""
        names = [name for name in self.held if some & self.held[name]]
        return names[0] if len(names) == 1 else None

    def parts(self, some):
        """The list of the tuples (head, one, other) of the doubts that part a set, one being where it is sound."""
        found = []
        for head in self.whole.heads:
            one = self.whole.with_word(some, head, "sound")
            other = self.whole.with_word(some, head, "void")
            # A look whose word is told already by those found takes nothing away, and never helps.
            if one and other:
                found.append((head, one, other))
        return found

    def most_behind(self, one, other):
        """How many looks are needed behind one by which a set becomes one or other."""
        return max(self.needed(one), self.needed(other))

    def needed(self, some):
        """How many looks are needed until it is settled."""
        if some not in self._fewest:
            many = 0
            if self.name_in(some) is None:
                many = 1 + min([self.most_behind(one, other) for _, one, other in self.parts(some)])
            self._fewest[some] = many
        return self._fewest[some]

    def best(self, some):
        """The list of the parts of a set by looks with which a way of as few looks as are needed begins."""
        if self.name_in(some) is not None:
            return []
        many = self.needed(some)
        return [part for part in self.parts(some) if 1 + self.most_behind(part[1], part[2]) == many]


class Likely:
    """What looks come to if the truths are likely as shares tell. All numbers are of one common bottom."""

    def __init__(self, looks, shares):
        weights = weights_of(shares)
        self._looks = looks
        self._weights = [_product(weights, row) for row in looks.whole.rows]
        self._costs = {}

    def likelihood(self, some):
        """How likely the members of a set are together."""
        return sum([self._weights[at] for at in members(some)])

    def cost(self, some):
        """The least number of looks to be expected of a set, each truth counting as it is likely."""
        if some not in self._costs:
            least = 0
            if self._looks.name_in(some) is None:
                behind = [self.cost(one) + self.cost(other) for _, one, other in self._looks.parts(some)]
                least = self.likelihood(some) + min(behind)
            self._costs[some] = least
        return self._costs[some]


def is_settled(case, plot, rule):
    """Whether the same name holds the plot in all truths of the Case."""
    return len(possible(case, plot, rule)) == 1


def looks_needed(case, plot, rule):
    """The least number of looks behind which it is settled at most, whatever the truth."""
    looks = Looks(case, plot, rule)
    return looks.needed(looks.whole.every)


def best_looks(case, plot, rule):
    """The ascending list of the heads of the doubts with which a way of so few looks may begin."""
    looks = Looks(case, plot, rule)
    return [head for head, _, _ in looks.best(looks.whole.every)]


def looks_expected(case, plot, rule, shares):
    """The least number of looks to be expected, as a fraction."""
    likely, every = _likely(Looks(case, plot, rule), shares)
    return fraction(likely.cost(every), likely.likelihood(every))


def best_expected(case, plot, rule, shares):
    """The ascending list of the heads of the doubts with which one may begin for so few looks."""
    looks = Looks(case, plot, rule)
    likely, every = _likely(looks, shares)
    if looks.name_in(every) is not None:
        return []
    least = likely.cost(every) - likely.likelihood(every)
    return [head for head, one, other in looks.parts(every) if likely.cost(one) + likely.cost(other) == least]


def _product(weights, truth):
    found = 1
    for head, (sound, void) in weights.items():
        found = found * (void if head in truth else sound)
    return found


def _likely(looks, shares):
    """The tuple of what is likely, and of the set of all truths, which must be."""
    likely = Likely(looks, shares)
    every = looks.whole.every
    if likely.likelihood(every) == 0:
        raise Unlikely()
    return (likely, every)
