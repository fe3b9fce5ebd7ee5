"""Stories by which two rules part: rolls of one plot, each with a truth in which they tell other holders."""

from soundtitle.forms import is_roll
from soundtitle.rolls import is_truth_of, plots
from soundtitle.rules import doctrines
from soundtitle.walks import holder

_FIRSTS = (("acre", "ann"),)
# Papers with a truth. Any two rules of unlike doctrines part in one of these, and in the first one if in any of so few.
_TELLING = (
    # A forged sale that is entered.
    ((("sale", "ann", "bob", ("acre",), 0, 0),), (0,)),
    # Two sales by the first holder: none is entered, or the later one is.
    ((("sale", "ann", "bob", ("acre",), 0, None), ("sale", "ann", "cid", ("acre",), 0, None)), ()),
    ((("sale", "ann", "bob", ("acre",), 0, None), ("sale", "ann", "cid", ("acre",), 0, 0)), ()),
    # A sale by who is shown by a forged one.
    ((("sale", "ann", "bob", ("acre",), 0, 0), ("sale", "bob", "cid", ("acre",), 1, 1)), (0,)),
    # A sale drawn ahead of the title of its seller, and entered behind it.
    ((("sale", "ann", "bob", ("acre",), 1, 1), ("sale", "bob", "ann", ("acre",), 0, 1)), ()),
)


def fewest_papers(one, other):
    """The least number of papers of a story in which two rules part, or None if they are of the same doctrine."""
    found = story(one, other)
    if found is None:
        return None
    return len(found[0][1])


def story(one, other):
    """A story of so many papers in which two rules part, or None."""
    for papers, truth in _TELLING:
        found = ((_FIRSTS, papers), truth)
        if _holder_in(found, one) != _holder_in(found, other):
            return found
    return None


def is_story(one, other, thing):
    """Whether a thing, any value, is a story in which two rules part."""
    if not isinstance(thing, tuple) or len(thing) != 2:
        return False
    roll, truth = thing
    if not is_roll(roll) or len(plots(roll)) != 1 or not is_truth_of(roll, truth):
        return False
    return _holder_in(thing, one) != _holder_in(thing, other)


def doctrine_by(told):
    """The ascending list of the least rules of the doctrines by which in each story the name told with it holds."""
    return [rule for rule in doctrines() if all([_holder_in(found, rule) == name for found, name in told])]


def _holder_in(found, rule):
    """Who holds the plot of a story by a rule."""
    roll, truth = found
    return holder(roll, plots(roll)[0], rule, truth)
