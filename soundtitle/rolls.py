"""What stands in a roll, and the rolls that it becomes."""

from soundtitle.errors import Clash, Needed, NoPaper, NoPlot, Wrong
from soundtitle.forms import is_integer, is_paper_behind, is_truth
from soundtitle.papers import drawn_on, entered_on, led_along, persons_of, with_persons


def plots(roll):
    return [first[0] for first in roll[0]]


def names(roll):
    firsts, papers = roll
    found = [first[1] for first in firsts]
    for paper in papers:
        found.extend(persons_of(paper))
    return sorted(set(found))


def first_of(roll, plot):
    for held, name in roll[0]:
        if held == plot:
            return name
    raise NoPlot(plot)


def plots_of(roll, number):
    """The plots that a paper is for, in ascending order."""
    if not has_paper(roll, number):
        raise NoPaper(number)
    papers = roll[1]
    paper = papers[number]
    if paper[0] == "sale":
        return list(paper[3])
    if paper[0] == "loan":
        return [paper[3]]
    return [papers[paper[2]][3]]


def papers_for(roll, plot):
    """The numbers of the papers for a plot, in ascending order."""
    if plot not in plots(roll):
        raise NoPlot(plot)
    return [number for number in range(len(roll[1])) if plot in plots_of(roll, number)]


def has_paper(roll, number):
    """Whether a number, any value, is that of a paper of the roll."""
    return is_integer(number) and 0 <= number < len(roll[1])


def is_truth_of(roll, thing):
    """Whether a thing, any value, is a truth of the roll."""
    return is_truth(thing) and all([number < len(roll[1]) for number in thing])


def with_paper(roll, at, paper):
    """The roll in which the paper stands at the number at, those from there on having one more."""
    firsts, papers = roll
    if not is_integer(at) or not 0 <= at <= len(papers):
        raise NoPaper(at)
    ahead = papers[:at]
    if not is_paper_behind(paper, plots(roll), ahead):
        raise Wrong(2)
    behind = [led_along(elder, at, 1) for elder in papers[at:]]
    return (firsts, ahead + (paper,) + tuple(behind))


def without_paper(roll, number):
    """The roll without a paper, those behind it having one less."""
    if not has_paper(roll, number):
        raise NoPaper(number)
    firsts, papers = roll
    for other, paper in enumerate(papers):
        if paper[0] == "release" and paper[2] == number:
            raise Needed(number, other)
    behind = [led_along(paper, number, -1) for paper in papers[number + 1:]]
    return (firsts, papers[:number] + tuple(behind))


def renamed(roll, table):
    """The roll with other names for the persons in the table, all at once; plots stay."""
    new = {name: table.get(name, name) for name in names(roll)}
    told = sorted(new.values())
    for one, other in zip(told, told[1:]):
        if one == other:
            raise Clash(one)
    firsts, papers = roll
    return (
        tuple([(plot, new[name]) for plot, name in firsts]),
        tuple([with_persons(paper, new) for paper in papers]),
    )


def day_behind(roll):
    """The first day behind all days of a roll."""
    days = [-1]
    for paper in roll[1]:
        entered = entered_on(paper)
        days.append(drawn_on(paper) if entered is None else entered)
    return max(days) + 1
