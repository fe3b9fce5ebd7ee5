"""Trees of looks: which doubt is looked at next, by the words that were found, and who holds the plot behind all."""

from soundtitle.errors import NoTruth
from soundtitle.forms import is_integer
from soundtitle.looks import Looks
from soundtitle.lots import word_in


def is_tree(case, plot, rule, thing):
    """Whether a thing, any value, is a tree of the Case."""
    looks = Looks(case, plot, rule)
    return _is_tree_of(looks, looks.whole.every, looks.whole.heads, thing)


def best_tree(case, plot, rule):
    """A tree of the Case of as few looks as are needed."""
    looks = Looks(case, plot, rule)
    return _best_of(looks, looks.whole.every)


def depth(tree):
    """The most looks of a way through a tree."""
    if tree[0] == "knows":
        return 0
    return 1 + max([depth(part) for part in tree[2:] if part is not None])


def told_by(tree, case, truth):
    """The name to which the words of a truth lead, and the list of the heads looked at on the way."""
    if not case.is_truth(truth):
        raise NoTruth(truth)
    heads = []
    while tree[0] == "look":
        _, head, one, other = tree
        heads.append(head)
        tree = one if word_in(truth, head) == "sound" else other
    return (tree[1], heads)


def lots_of(tree):
    """The ascending list of the lots of the words on the ways to the ends of a tree."""
    return sorted([tuple(sorted(words)) for words in _words_of(tree)])


def _is_tree_of(looks, some, heads, thing):
    """Whether a thing is a tree of the Case in which some truths are left, and some heads not found."""
    if not isinstance(thing, tuple) or len(thing) not in (2, 4):
        return False
    if len(thing) == 2:
        name = looks.name_in(some)
        return thing[0] == "knows" and name is not None and thing[1] == name
    word, head, one, other = thing
    if word != "look" or not is_integer(head) or head not in heads:
        return False
    left = [elder for elder in heads if elder != head]
    if not _is_tree_of(looks, looks.whole.with_word(some, head, "sound"), left, one):
        return False
    void = looks.whole.with_word(some, head, "void")
    if void == 0:
        return other is None
    return _is_tree_of(looks, void, left, other)


def _best_of(looks, some):
    name = looks.name_in(some)
    if name is not None:
        return ("knows", name)
    head, one, other = looks.best(some)[0]
    return ("look", head, _best_of(looks, one), _best_of(looks, other))


def _words_of(tree):
    """The list of the lists of the tuples (head, word) on the ways to the ends of a tree."""
    if tree[0] == "knows":
        return [[]]
    _, head, one, other = tree
    found = [[(head, "sound")] + words for words in _words_of(one)]
    if other is not None:
        found.extend([[(head, "void")] + words for words in _words_of(other)])
    return found
