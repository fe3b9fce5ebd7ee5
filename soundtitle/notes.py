"""Notes of searchers: lots of words that each of them found, put together."""

from soundtitle.errors import Bound, Unlike
from soundtitle.lots import least_lots
from soundtitle.truths import holding, truths_of


def agree(case, one, other):
    """Whether no doubt has unlike words in two lots, and some truth of the Case agrees with both."""
    return not _unlike(one, other) and _is_let(case, _both(one, other))


def put_together(case, one, other):
    """The lot of the words of both."""
    heads = _unlike(one, other)
    if heads:
        raise Unlike(heads[0])
    lot = _both(one, other)
    if not _is_let(case, lot):
        raise Bound()
    return lot


def least_telling(case, plot, rule, name, one, other):
    """The ascending list of the parts of other that are a warrant for a name together with one, and no lesser is."""
    held = holding(case, plot, rule).get(name, 0)
    truths = truths_of(case)
    # As the two agree, some truth agrees with one and any part of other.
    return least_lots(list(other), lambda part: truths.agreeing(one + part) & ~held == 0)


def _unlike(one, other):
    """The ascending list of the heads that two lots tell unlike."""
    words = {head: word for head, word in one}
    return [head for head, word in other if words.get(head, word) != word]


def _both(one, other):
    return tuple(sorted(set(one + other)))


def _is_let(case, lot):
    """Whether some truth of the Case agrees with a lot: so many doubts may be void, and all others sound."""
    return len([word for _, word in lot if word == "void"]) <= case.cap()
