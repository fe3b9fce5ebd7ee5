"""Cases: which papers of a roll are known, which are doubtful together, and the truths that this leaves."""

from math import comb

from soundtitle.errors import Bound, Known, NoPaper, NoTruth, NoWord, Wrong
from soundtitle.forms import is_integer, is_roll, is_word
from soundtitle.rolls import has_paper, is_truth_of

# A Case that is made of another one begins with this roll, which is soon held against its description.
_PLAIN = ((("a", "a"),), ())


class Case:
    """A roll with the words that are known, the groups of doubts, and a bound on void doubts. It never changes."""

    def __init__(self, roll, known, groups, most):
        if not is_roll(roll):
            raise Wrong(0)
        if not _is_known(roll, known):
            raise Wrong(1)
        if not _is_groups(roll, known, groups):
            raise Wrong(2)
        if most is not None and not (is_integer(most) and most >= 0):
            raise Wrong(3)
        self._keep(roll, known, tuple(sorted(groups)), most, _doubts(roll, known, groups))

    def __eq__(self, other):
        return (
            isinstance(other, Case) and self._roll == other._roll and self._known == other._known
            and self._groups == other._groups and self._most == other._most
        )

    def roll(self):
        return self._roll

    def known(self):
        return {number: self._known[number] for number in self._known}

    def groups(self):
        return self._groups

    def most(self):
        return self._most

    def doubts(self):
        """The ascending list of the doubts, each the tuple of its papers."""
        return list(self._doubts)

    def doubt_of(self, number):
        """The doubt that a paper is in, or None if it is known."""
        if not has_paper(self._roll, number):
            raise NoPaper(number)
        return self._doubt_of.get(number)

    def truths(self):
        """The ascending list of all truths."""
        rows = [(self._known_void(), 0)]
        cap = self.cap()
        for doubt in self._doubts:
            rows = rows + [(row + list(doubt), many + 1) for row, many in rows if many < cap]
        return sorted([tuple(sorted(row)) for row, _ in rows])

    def count(self):
        return ways(len(self._doubts), self.cap())

    def cap(self):
        """The most doubts that can be void in a truth."""
        if self._most is None:
            return len(self._doubts)
        return min(self._most, len(self._doubts))

    def is_truth(self, thing):
        """Whether a thing, any value, is a truth of the Case."""
        if not is_truth_of(self._roll, thing):
            return False
        for number, word in self._known.items():
            if (number in thing) != (word == "void"):
                return False
        for doubt in self._doubts:
            if len([number for number in doubt if number in thing]) not in (0, len(doubt)):
                return False
        return self._voids(thing) <= self.cap()

    def voids(self, truth):
        """How many doubts are void in a truth of the Case."""
        if not self.is_truth(truth):
            raise NoTruth(truth)
        return self._voids(truth)

    def found(self, number, word):
        """The Case in which the doubt of a paper is known, all its papers with this word."""
        return self.found_each([(number, word)])

    def found_each(self, words):
        """The Case in which the words of some papers, a list of tuples (number, word), are found one behind another."""
        known, most = self.known(), self._most
        for number, word in words:
            if not has_paper(self._roll, number):
                raise NoPaper(number)
            if not is_word(word):
                raise NoWord(word)
            if number in known:
                raise Known(number)
            if most is not None and word == "void":
                if most == 0:
                    raise Bound()
                most = most - 1
            for other in self._doubt_of[number]:
                known[other] = word
        # What is kept here is as described, and so is what is found: it need not be held against that once more.
        case = Case(_PLAIN, {}, (), None)
        groups = tuple([group for group in self._groups if group[0] not in known])
        case._keep(self._roll, known, groups, most, [doubt for doubt in self._doubts if doubt[0] not in known])
        return case

    def truth_with(self, heads):
        """The void papers if just the doubts with these heads are void."""
        void = self._known_void()
        for head in heads:
            void.extend(self._doubt_of[head])
        return tuple(sorted(void))

    def shelf(self, key):
        """A list for what is worked out of the Case under a key, bare at first.

        Questions about one Case come one behind another, and the next of them finds what was worked out. What is told
        never depends on it.
        """
        return self._shelves.setdefault(key, [])

    def _keep(self, roll, known, groups, most, doubts):
        self._roll = roll
        self._known = {number: known[number] for number in sorted(known)}
        self._groups = groups
        self._most = most
        self._doubts = doubts
        self._doubt_of = {number: doubt for doubt in doubts for number in doubt}
        self._shelves = {}

    def _known_void(self):
        return [number for number in self._known if self._known[number] == "void"]

    def _voids(self, truth):
        return len([doubt for doubt in self._doubts if doubt[0] in truth])


def ways(many, most):
    """How many choices of words so many doubts have with at most most of them void."""
    return sum([comb(many, voids) for voids in range(min(many, most) + 1)])


def _is_known(roll, thing):
    if not isinstance(thing, dict):
        return False
    return all([has_paper(roll, number) and is_word(word) for number, word in thing.items()])


def _is_groups(roll, known, thing):
    # A group has the form of a truth: an ascending tuple of different numbers of papers.
    if not isinstance(thing, tuple) or not all([is_truth_of(roll, group) and len(group) >= 2 for group in thing]):
        return False
    numbers = [number for group in thing for number in group]
    return len(set(numbers)) == len(numbers) and not any([number in known for number in numbers])


def _doubts(roll, known, groups):
    grouped = {number: True for group in groups for number in group}
    alone = [(number,) for number in range(len(roll[1])) if number not in known and number not in grouped]
    return sorted(list(groups) + alone)
