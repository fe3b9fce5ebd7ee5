"""Which loans stand on a plot, in one truth and in all of them, and in which order they rank.

An END is a tuple (state, loans): a state of the plot, and the ascending tuple of the loans that stand with it.
"""

from soundtitle.errors import NoPlot, NoTruth
from soundtitle.moments import moments
from soundtitle.papers import drawn_on, entered_on
from soundtitle.rolls import is_truth_of, plots
from soundtitle.truths import led, many_in, truths_of
from soundtitle.walks import deals, first_state, is_loss, state_behind


def standing(roll, plot, rule, truth):
    """The list of the loans that stand, an ascending tuple of their numbers for each place."""
    end = (first_state(roll, plot), ())
    if not is_truth_of(roll, truth):
        raise NoTruth(truth)
    line = [()]
    for step in loan_steps(roll, plot):
        end = end_behind(roll, rule, step, end, step[0] not in truth)
        line.append(end[1])
    return line


def ranks(roll, rule, loans):
    """The list of some loans of one plot in the order of their ranks."""
    rows = []
    for number in loans:
        paper = roll[1][number]
        row = (drawn_on(paper), number)
        if rule[0] != "drawn":
            day = entered_on(paper)
            # Those that are never entered stand behind all others.
            row = (1, 0) + row if day is None else (0, day) + row
        rows.append(row)
    return [row[-1] for row in sorted(rows)]


def ends(case, plot, rule):
    """The ascending list of the tuples (name, loans) of who holds and which loans stand at the end of some truth."""
    return list(ends_many(case, plot, rule))


def ends_many(case, plot, rule):
    """The dict from these tuples to how many truths end so."""
    found = {}
    for (state, loans), some in all_ends(case, plot, rule).items():
        found[(state[0], loans)] = found.get((state[0], loans), 0) + many_in(some)
    return {end: found[end] for end in sorted(found)}


def always(case, plot, rule):
    """The ascending list of the loans that stand at the end of all truths."""
    rows = [loans for _, loans in all_ends(case, plot, rule)]
    return [loan for loan in rows[0] if all([loan in loans for loans in rows])]


def ever(case, plot, rule):
    """The ascending list of the loans that stand at the end of some truth."""
    return sorted(set([loan for _, loans in all_ends(case, plot, rule) for loan in loans]))


def all_ends(case, plot, rule):
    """The dict from the ENDS at the last place to the sets of truths that come to them; nobody changes it."""
    roll = case.roll()
    if plot not in plots(roll):
        raise NoPlot(plot)
    kept = case.shelf(("ends", plot, rule))
    if not kept:
        truths = truths_of(case)
        steps = [(truths.void_in[step[0]], step) for step in loan_steps(roll, plot)]
        layer = {(first_state(roll, plot), ()): truths.every}
        kept.append(led(layer, steps, lambda step, end, is_sound: end_behind(roll, rule, step, end, is_sound)))
    return kept[0]


def loan_steps(roll, plot):
    """What walks with loans ask of each moment of a plot: the list of tuples (number, word, deal, safe).

    deal is what soundtitle.walks asks, and safe the list of the loans that were entered at a moment ahead.
    """
    found = []
    safe = []
    for (_, number, word), deal in zip(moments(roll, plot), deals(roll, plot)):
        found.append((number, word, deal, safe))
        if word == "entered" and roll[1][number][0] == "loan":
            safe = safe + [number]
    return found


def end_behind(roll, rule, step, end, is_sound):
    """The END behind a moment, from the one ahead of it."""
    number, word, deal, safe = step
    state, loans = end
    if deal is not None:
        if is_loss(rule, deal, state, is_sound):
            loans = tuple([loan for loan in loans if loan in safe])
        return (state_behind(rule, deal, state, is_sound), loans)
    if word == "drawn" and is_sound:
        loans = _loans_behind(roll, number, state[0], loans)
    return (state, loans)


def _loans_behind(roll, number, name, loans):
    """The loans that stand behind the drawing of a sound loan or release, the plot being held by a name."""
    paper = roll[1][number]
    if paper[0] == "loan":
        # A loan may be drawn behind one with a greater number.
        return tuple(sorted(loans + (number,))) if paper[1] == name else loans
    _, lender, loan, _ = paper
    if roll[1][loan][2] != lender:
        return loans
    return tuple([other for other in loans if other != loan])
