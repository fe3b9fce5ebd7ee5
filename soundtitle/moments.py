"""The moments of a plot, and the places behind them."""

from soundtitle.errors import NoPaper
from soundtitle.papers import drawn_on, entered_on
from soundtitle.rolls import has_paper, papers_for


def moments(roll, plot):
    """The ascending list of the tuples (day, number, word) of a plot."""
    found = []
    for number in papers_for(roll, plot):
        paper = roll[1][number]
        found.append((drawn_on(paper), number, "drawn"))
        if entered_on(paper) is not None:
            found.append((entered_on(paper), number, "entered"))
    return sorted(found)


def places_of(roll, plot, number):
    """The ascending list of the places behind the moments that a paper has for a plot."""
    rows = moments(roll, plot)
    if not has_paper(roll, number):
        raise NoPaper(number)
    return [place for place, row in enumerate(rows, 1) if row[1] == number]
