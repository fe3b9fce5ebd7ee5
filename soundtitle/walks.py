"""One truth of a roll: the states of a plot from place to place, and who holds it at the end."""

from soundtitle.errors import NoTruth
from soundtitle.moments import moments
from soundtitle.papers import entered_on
from soundtitle.rolls import first_of, is_truth_of, plots
from soundtitle.shown import innocents


def states(roll, plot, rule, truth):
    """The list of the states (holder, base, row), one for each place."""
    state = first_state(roll, plot)
    if not is_truth_of(roll, truth):
        raise NoTruth(truth)
    line = [state]
    for deal in deals(roll, plot):
        state = state_behind(rule, deal, state, is_sound_in(deal, truth))
        line.append(state)
    return line


def holder(roll, plot, rule, truth):
    """Who holds the plot at the end."""
    return states(roll, plot, rule, truth)[-1][0]


def holders(roll, rule, truth):
    """The dict from all plots to who holds them at the end."""
    return {plot: holder(roll, plot, rule, truth) for plot in plots(roll)}


def overrides(roll, plot, rule, truth):
    """The list of the tuples (place, loser, winner) of the overrides by which somebody loses the plot."""
    line = states(roll, plot, rule, truth)
    found = []
    for at, deal in enumerate(deals(roll, plot)):
        if is_loss(rule, deal, line[at], is_sound_in(deal, truth)):
            found.append((at + 1, line[at][0], line[at + 1][0]))
    return found


def first_state(roll, plot):
    """The state of a plot at the beginning."""
    name = first_of(roll, plot)
    return (name, name, ())


def deals(roll, plot):
    """What walks ask of each moment of a plot.

    For a sale it is the tuple (word, number, seller, buyer, whether it is innocent, whether it is ever entered),
    for a loan or a release, which change no state, `None`.
    """
    innocent = innocents(roll, plot)
    found = []
    for _, number, word in moments(roll, plot):
        paper = roll[1][number]
        if paper[0] == "sale":
            found.append((word, number, paper[1], paper[2], innocent[number], entered_on(paper) is not None))
        else:
            found.append(None)
    return found


def is_sound_in(deal, truth):
    return deal is not None and deal[1] not in truth


def state_behind(rule, deal, state, is_sound):
    """The state behind a moment, from the one ahead of it."""
    if deal is None:
        return state
    word, number, seller, buyer, _, entered = deal
    name, base, row = state
    overrides_now = _is_override(rule, deal, state, is_sound)
    if word == "entered":
        behind = base_behind(rule, deal, base, is_sound)
        if overrides_now:
            return (buyer, behind, ())
        return (name, behind, _row_behind(row, number, seller == base))
    if is_sound and seller == name:
        if entered and rule[0] in ("entered", "both"):
            row = row + (number,)
        return (buyer, base, row)
    return (buyer, base, row) if overrides_now else state


def base_behind(rule, deal, base, is_sound):
    """The base behind a moment, from the one ahead of it; nothing else of the state is asked for it."""
    if deal is None:
        return base
    word, _, seller, buyer, _, _ = deal
    if word == "entered" and seller == base and (is_sound or rule[1] != "never"):
        return buyer
    return base


def is_loss(rule, deal, state, is_sound):
    """Whether somebody loses the plot by an override at a moment."""
    # An override of who is the holder already takes nothing away.
    return deal is not None and deal[3] != state[0] and _is_override(rule, deal, state, is_sound)


def _is_override(rule, deal, state, is_sound):
    """Whether a sale overrides at its moment, be it somebody who is the holder already."""
    word, number, seller, _, innocent, _ = deal
    prior, forged = rule
    name, base, row = state
    if seller != base:
        return False
    if word == "drawn":
        return is_sound and seller != name and prior == "innocent" and innocent
    if number in row:
        return False
    if is_sound:
        return prior == "entered" or (prior == "both" and innocent)
    return forged == "once" and prior != "drawn" and innocent


def _row_behind(row, number, is_of_base):
    """The row when the sale with a number is entered: one of the base takes all ahead of it along."""
    if number not in row:
        return row
    at = row.index(number)
    if is_of_base:
        return row[at + 1:]
    return row[:at] + row[at + 1:]
