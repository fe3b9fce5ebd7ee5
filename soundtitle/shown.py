"""The holder that the roll shows, whether its papers are sound or void."""

from soundtitle.errors import NoSale
from soundtitle.forms import is_integer
from soundtitle.moments import moments
from soundtitle.rolls import first_of


def shown_at(roll, plot):
    """The list of who is shown, one for each place."""
    shown = first_of(roll, plot)
    line = [shown]
    for _, number, word in moments(roll, plot):
        paper = roll[1][number]
        if word == "entered" and paper[0] == "sale" and paper[1] == shown:
            shown = paper[2]
        line.append(shown)
    return line


def shown_on(roll, plot, day):
    """Who is shown behind all moments of days ahead of a day."""
    ahead = [row for row in moments(roll, plot) if row[0] < day]
    return shown_at(roll, plot)[len(ahead)]


def is_innocent(roll, plot, number):
    """Whether the seller is shown on the day on which a sale was drawn."""
    found = innocents(roll, plot)
    # True would be found among the numbers as 1, and lists cannot be looked up.
    if not is_integer(number) or number not in found:
        raise NoSale(number)
    return found[number]


def innocents(roll, plot):
    """The dict from the numbers of all sales for a plot to whether each is innocent."""
    shown = shown_at(roll, plot)
    ahead = {}
    found = {}
    for at, (day, number, word) in enumerate(moments(roll, plot)):
        # The first moment of a day tells how many lie ahead of the day.
        ahead.setdefault(day, at)
        paper = roll[1][number]
        if paper[0] == "sale" and word == "drawn":
            found[number] = shown[ahead[day]] == paper[1]
    return found
