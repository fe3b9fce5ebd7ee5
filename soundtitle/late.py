"""What a paper that is found later makes of a Case."""

from soundtitle.cases import Case
from soundtitle.errors import Wrong
from soundtitle.odds import fraction
from soundtitle.rolls import with_paper
from soundtitle.truths import holding, holding_in, truths_of


def late(case, at, paper, word):
    """The Case in which a paper stands at the number at, known with a word, or, if it is None, a doubt of its own."""
    roll = with_paper(case.roll(), at, paper)
    known = {_led_along(number, at): told for number, told in case.known().items()}
    if word is not None:
        known[at] = word
    groups = tuple([tuple([_led_along(number, at) for number in group]) for group in case.groups()])
    return Case(roll, known, groups, case.most())


def differs(case, plot, rule, at, paper):
    """The ascending list of the tuples (truth, name, other) of the truths in which a sound paper moves the plot.

    The name holds the plot in the truth of the Case, and the other one does with the paper besides.
    """
    held = holding(case, plot, rule)
    roll = _longer(case, at, paper)
    truths = truths_of(case)
    void_in = truths.void_in[:at] + [0] + truths.void_in[at:]
    found = []
    for other, some in holding_in(roll, plot, rule, truths.every, void_in).items():
        for name in held:
            if name != other:
                found.extend([(truth, name, other) for truth in truths.told(some & held[name])])
    return sorted(found)


def reaches(case, plot, rule, at, paper):
    """How many truths of the Case that is, as a fraction of all."""
    return fraction(len(differs(case, plot, rule, at, paper)), case.count())


def _led_along(number, at):
    """The number that a paper has behind another one being put in at a number."""
    return number + 1 if number >= at else number


def _longer(case, at, paper):
    try:
        return with_paper(case.roll(), at, paper)
    except Wrong:
        # The paper stands elsewhere among the arguments here.
        raise Wrong(4) from None
