"""The holder that the roll shows, whether its papers are sound or void."""

from soundtitle.errors import NoSale
from soundtitle.moments import moments
from soundtitle.papers import drawn_on
from soundtitle.rolls import first_of, has_paper, papers_for


def shown_at(roll, plot):
    """The list of who is shown, one for each place."""
    shown = first_of(roll, plot)
    line = [shown]
    for _, number, word in moments(roll, plot):
        paper = roll[1][number]
        if word == "entered" and paper[0] == "sale" and paper[1] == shown:
            shown = paper[2]
        line.append(shown)
    return line


def shown_on(roll, plot, day):
    """Who is shown behind all moments of days ahead of a day."""
    ahead = [row for row in moments(roll, plot) if row[0] < day]
    return shown_at(roll, plot)[len(ahead)]


def is_innocent(roll, plot, number):
    """Whether the seller is shown on the day on which a sale was drawn."""
    numbers = papers_for(roll, plot)
    # True would be found among the numbers as 1.
    if not has_paper(roll, number) or number not in numbers:
        raise NoSale(number)
    paper = roll[1][number]
    if paper[0] != "sale":
        raise NoSale(number)
    return shown_on(roll, plot, drawn_on(paper)) == paper[1]
