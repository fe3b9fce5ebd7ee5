"""The twelve rules by which a holder is told, and the ten doctrines that they come to."""

from soundtitle.forms import FORGED, PRIORS


def rules():
    """The ascending list of the rules."""
    return sorted([(prior, forged) for prior in PRIORS for forged in FORGED])


def same_doctrine(one, other):
    # With "drawn" nothing asks for the base, the only thing that forged sales would move.
    return one == other or one[0] == "drawn" == other[0]


def doctrines():
    """The ascending list of the least rule of each doctrine."""
    return [rule for rule in rules() if rule == doctrine_of(rule)]


def doctrine_of(rule):
    """The least rule of the doctrine of a rule."""
    return min([other for other in rules() if same_doctrine(rule, other)])
