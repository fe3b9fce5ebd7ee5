"""Whose sales together clear a plot: a buyer holds it, and no loan stands on it, whatever the truth."""

from soundtitle.loans import all_ends, end_behind, loan_steps
from soundtitle.lots import least_lots
from soundtitle.moments import moments
from soundtitle.rolls import day_behind, names, papers_for

# No name: so this buyer stands nowhere in any roll.
BUYER = "none"


def joined(roll, plot, some, buyer):
    """The roll in which some names join in a sale of the plot to a buyer."""
    firsts, papers = roll
    day = day_behind(roll)
    added = []
    for name in sorted(set(some)):
        # Nobody sells to himself.
        if name != buyer:
            lent = [number for number in papers_for(roll, plot) if _is_loan_by(papers[number], name)]
            added.extend([("release", name, number, day) for number in lent])
            added.append(("sale", name, buyer, (plot,), day, day))
    return (firsts, papers + tuple(added))


def clears(case, plot, rule, some):
    """Whether some names clear the plot."""
    ends = all_ends(case, plot, rule)
    elder = case.roll()
    roll = joined(elder, plot, some, BUYER)
    # What is put behind all others moves nothing ahead of it.
    steps = loan_steps(roll, plot)[len(moments(elder, plot)):]
    for end in ends:
        (holder, _, _), loans = _led(roll, rule, steps, end)
        if holder != BUYER or loans:
            return False
    return True


def least_clearing(case, plot, rule):
    """The ascending list of the ascending tuples of names of the roll that clear the plot, and no lesser part does."""
    return least_lots(names(case.roll()), lambda some: clears(case, plot, rule, some))


def _is_loan_by(paper, name):
    return paper[0] == "loan" and paper[2] == name


def _led(roll, rule, steps, end):
    for step in steps:
        end = end_behind(roll, rule, step, end, True)
    return end
