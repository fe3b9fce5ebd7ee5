"""What values look like: each function tells whether a thing, any value, is what its name says."""

NO_NAMES = (
    "both", "bound", "claim", "entered", "drawn", "first", "found", "free", "group", "innocent", "known", "loan",
    "never", "next", "none", "once", "paper", "release", "rule", "sale", "sound", "undone", "void",
)
PRIORS = ("drawn", "entered", "innocent", "both")
FORGED = ("never", "next", "once")
WORDS = ("sound", "void")


def is_integer(thing):
    return isinstance(thing, int) and not isinstance(thing, bool)


def is_name(thing):
    if not isinstance(thing, str) or not 1 <= len(thing) <= 8:
        return False
    return all(["a" <= sign <= "z" for sign in thing]) and thing not in NO_NAMES


def is_day(thing):
    return is_integer(thing) and thing >= 0


def is_word(thing):
    return thing in WORDS


def is_rule(thing):
    return isinstance(thing, tuple) and len(thing) == 2 and thing[0] in PRIORS and thing[1] in FORGED


def is_truth(thing):
    if not isinstance(thing, tuple) or not all([is_integer(number) and number >= 0 for number in thing]):
        return False
    return _is_rising(thing)


def is_paper(thing):
    """Of a release, the number may be any integer from 0 on."""
    if not isinstance(thing, tuple) or len(thing) == 0:
        return False
    if thing[0] == "sale":
        return _is_sale(thing)
    if thing[0] == "loan":
        return _is_loan(thing)
    return thing[0] == "release" and _is_release(thing)


def is_roll(thing):
    if not isinstance(thing, tuple) or len(thing) != 2:
        return False
    firsts, papers = thing
    if not is_firsts(firsts) or not isinstance(papers, tuple):
        return False
    held = [first[0] for first in firsts]
    # Papers are asked in their order, so that those ahead of each one are known to be papers.
    for number, paper in enumerate(papers):
        if not is_paper_behind(paper, held, papers[:number]):
            return False
    return True


def is_firsts(thing):
    """Whether a thing, any value, can tell the plots of a roll and their first holders."""
    if not isinstance(thing, tuple) or len(thing) == 0:
        return False
    if not all([_is_first(first) for first in thing]):
        return False
    return _is_rising([first[0] for first in thing])


def is_paper_behind(thing, held, ahead):
    """Whether a thing, any value, is a paper that can stand behind the papers ahead, held being all plots."""
    if not is_paper(thing):
        return False
    if thing[0] == "sale":
        return all([plot in held for plot in thing[3]])
    if thing[0] == "loan":
        return thing[3] in held
    return thing[2] < len(ahead) and ahead[thing[2]][0] == "loan"


def _is_sale(thing):
    if len(thing) != 6:
        return False
    _, seller, buyer, plots, drawn, entered = thing
    return _are_two_names(seller, buyer) and _are_plots(plots) and _are_days(drawn, entered)


def _is_loan(thing):
    if len(thing) != 7:
        return False
    _, owner, lender, plot, amount, drawn, entered = thing
    if not _are_two_names(owner, lender) or not is_name(plot):
        return False
    return is_integer(amount) and amount >= 1 and _are_days(drawn, entered)


def _is_release(thing):
    if len(thing) != 4:
        return False
    _, lender, number, drawn = thing
    return is_name(lender) and is_integer(number) and number >= 0 and is_day(drawn)


def _is_first(thing):
    return isinstance(thing, tuple) and len(thing) == 2 and is_name(thing[0]) and is_name(thing[1])


def _are_two_names(one, other):
    return is_name(one) and is_name(other) and one != other


def _are_plots(thing):
    if not isinstance(thing, tuple) or len(thing) == 0:
        return False
    return all([is_name(plot) for plot in thing]) and _is_rising(thing)


def _are_days(drawn, entered):
    if not is_day(drawn):
        return False
    return entered is None or (is_day(entered) and entered >= drawn)


def _is_rising(things):
    return all([one < other for one, other in zip(things, things[1:])])
