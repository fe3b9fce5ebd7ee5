"""Lots of words: what is told of some doubts of a Case, each by its head; and least lots of anything."""

from itertools import combinations

from soundtitle.errors import Bound, NoTruth
from soundtitle.forms import is_integer, is_word


def is_lot(case, thing):
    """Whether a thing, any value, is a lot of words of the Case."""
    if not isinstance(thing, tuple) or not all([is_told(part) for part in thing]):
        return False
    told = [head for head, _ in thing]
    heads = {doubt[0]: True for doubt in case.doubts()}
    return told == sorted(set(told)) and all([head in heads for head in told])


def agrees(case, lot, truth):
    """Whether a truth of the Case has each doubt of a lot as it tells."""
    if not case.is_truth(truth):
        raise NoTruth(truth)
    return all([word_in(truth, head) == word for head, word in lot])


def lot_of(case, truth):
    """The lot of all doubts with which a truth of the Case agrees."""
    if not case.is_truth(truth):
        raise NoTruth(truth)
    return tuple([(doubt[0], word_in(truth, doubt[0])) for doubt in case.doubts()])


def found_all(case, lot):
    """The Case in which all words of a lot are found."""
    most = case.most()
    if most is not None and len([word for _, word in lot if word == "void"]) > most:
        raise Bound()
    return case.found_each(lot)


def has_head(case, thing):
    """Whether a thing, any value, is the head of a doubt of the Case."""
    return is_integer(thing) and thing in [doubt[0] for doubt in case.doubts()]


def is_told(thing):
    """Whether a thing, any value, has the form of one part of a lot."""
    return isinstance(thing, tuple) and len(thing) == 2 and is_integer(thing[0]) and is_word(thing[1])


def word_in(truth, number):
    """The word that a paper has in a truth."""
    if number in truth:
        return "void"
    return "sound"


def least_lots(some, is_enough):
    """The ascending list of the tuples out of an ascending list that are enough, and no lesser part of them is."""
    found = []
    for many in range(len(some) + 1):
        for lot in combinations(some, many):
            if not any([_is_part(elder, lot) for elder in found]) and is_enough(lot):
                found.append(lot)
    return sorted(found)


def _is_part(one, other):
    return all([part in other for part in one])
