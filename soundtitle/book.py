"""A book that keeps a Case, a rule and claims, and is led by deeds.

A PAGE is a tuple (case, rule, claims) of what a book keeps at a time, claims being a tuple of tuples (plot, name).
"""

from soundtitle.cases import Case
from soundtitle.deeds import is_deed
from soundtitle.errors import Broken, NoClaim, NoDeed, NoGroup, NoPlot, Nothing, Stopped, TitleError, Wrong
from soundtitle.fewest import least_against
from soundtitle.forms import is_firsts
from soundtitle.late import late
from soundtitle.rolls import has_paper, plots


class Book:
    """What is kept, with the deeds that made it and those that were taken back."""

    def __init__(self, firsts):
        if not is_firsts(firsts):
            raise Wrong(0)
        self._page = (Case((firsts, ()), {}, (), None), ("drawn", "never"), ())
        # Each deed with the page ahead of it; and each one that was taken back with the page behind it.
        self._done = []
        self._undone = []

    def __eq__(self, other):
        return isinstance(other, Book) and self._page == other._page

    def __len__(self):
        return len(self._done)

    def do(self, deed):
        """Does a deed, any value."""
        if not is_deed(deed):
            raise NoDeed()
        page = _page_behind(self._page, deed)
        _check_claims(page)
        self._done.append((deed, self._page))
        self._undone.clear()
        self._page = page

    def case(self):
        return self._page[0]

    def rule(self):
        return self._page[1]

    def claims(self):
        return list(self._page[2])

    def log(self):
        """The list of the deeds that made the book."""
        return [deed for deed, _ in self._done]

    def back(self):
        """Takes the last deed back, and returns it."""
        if not self._done:
            raise Nothing()
        deed, page = self._done.pop()
        self._undone.append((deed, self._page))
        self._page = page
        return deed

    def again(self):
        """Does the last deed that was taken back once more, and returns it."""
        if not self._undone:
            raise Nothing()
        deed, page = self._undone.pop()
        self._done.append((deed, self._page))
        self._page = page
        return deed

    def copied(self):
        book = Book(self._page[0].roll()[0])
        book._page = self._page
        book._done = list(self._done)
        book._undone = list(self._undone)
        return book

    def trial(self, deeds):
        """A copy with all of a list of any values done as deeds."""
        book = self.copied()
        for index, deed in enumerate(deeds):
            try:
                book.do(deed)
            except TitleError:
                raise Stopped(index) from None
        return book


def _page_behind(page, deed):
    """The page behind a deed, but for what its claims say of it."""
    case, rule, claims = page
    word = deed[0]
    if word == "rule":
        return (case, deed[1], claims)
    if word == "claim":
        _, plot, name = deed
        if plot not in plots(case.roll()):
            raise NoPlot(plot)
        return (case, rule, claims + ((plot, name),))
    if word == "free":
        number = deed[1]
        if not 0 <= number < len(claims):
            raise NoClaim(number)
        return (case, rule, claims[:number] + claims[number + 1:])
    return (_case_behind(case, deed), rule, claims)


def _case_behind(case, deed):
    word = deed[0]
    if word == "paper":
        return late(case, deed[1], deed[2], None)
    if word == "found":
        return case.found(deed[1], deed[2])
    if word == "bound":
        return Case(case.roll(), case.known(), case.groups(), deed[1])
    group = deed[1]
    if not all([has_paper(case.roll(), number) and case.doubt_of(number) == (number,) for number in group]):
        raise NoGroup(group)
    return Case(case.roll(), case.known(), case.groups() + (group,), case.most())


def _check_claims(page):
    case, rule, claims = page
    for number, (plot, name) in enumerate(claims):
        truth = least_against(case, plot, rule, name)
        if truth is not None:
            raise Broken(number, truth)
