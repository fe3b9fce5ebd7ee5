"""Rolls and odd values that several tests use."""

import random

from soundtitle import errors
from soundtitle.rolls import names, plots, with_paper

FORGED = ("sale", "fay", "xan", ("acre",), 1, 2)
LATER = ("sale", "xan", "bea", ("acre",), 5, 6)
# The roll of the document's examples.
SMALL = ((("acre", "fay"),), (FORGED, LATER))

# Two plots, with a sale of both, loans, releases in and out of place, and days that fall together.
WIDE = (
    (("acre", "fay"), ("moor", "gil")),
    (
        ("loan", "fay", "len", "acre", 70, 3, 4),
        ("sale", "fay", "xan", ("acre", "moor"), 3, 3),
        ("release", "len", 0, 4),
        ("sale", "gil", "bea", ("moor",), 2, None),
        ("loan", "gil", "moe", "moor", 1, 0, None),
        ("release", "moe", 4, 0),
        ("sale", "xan", "fay", ("acre",), 3, 9),
        ("release", "zoe", 4, 11),
    ),
)

BARE = ((("acre", "fay"),), ())


def deep(many):
    thing = ()
    for _ in range(many):
        thing = (thing,)
    return thing


def odd_values():
    """Values of all kinds that a function which takes any value may be handed."""
    return [
        None, True, False, 0, 1, -1, 2, 10 ** 39, -(10 ** 39),
        "", " ", "a", "acre", "fay", "nobody", "Acre", "a b", "acre\n", "sale", "sound", "0", "~",
        [], (), {}, [0], (0,), ("acre",), ["acre"], {"acre": 1}, {(0, 1): [None]}, [[]], ((),), (True,), deep(29),
        [[[[{"a": (1, [2, {}])}]]]], tuple(range(2900)), (None, "a", 1, [], {}),
        errors.TitleError(), errors.Wrong(2), errors.NoPlot([]), [errors.Bound()], (errors.Needed(0, 1),),
        FORGED, list(FORGED), SMALL, list(SMALL), ("drawn", "never"),
    ]


def spoiled(thing):
    """All values that come from a tuple by exchanging, leaving out or adding one part, however deep."""
    for at, part in enumerate(thing):
        yield thing[:at] + thing[at + 1:]
        for other in odd_values():
            yield thing[:at] + (other,) + thing[at + 1:]
        if isinstance(part, tuple):
            for other in spoiled(part):
                yield thing[:at] + (other,) + thing[at + 1:]
    for at in range(len(thing) + 1):
        for other in (None, True, 0, "acre", (), []):
            yield thing[:at] + (other,) + thing[at:]
    yield list(thing)


def made_rolls(many):
    """Rolls of a few papers, the same ones in each run."""
    source = random.Random(7)
    return [_made_roll(source) for _ in range(many)]


def _made_roll(source):
    held = sorted(source.sample(["acre", "glen", "moor"], source.randint(1, 3)))
    people = ["ann", "bob", "cid", "dan"]
    roll = (tuple((plot, source.choice(people)) for plot in held), ())
    for number in range(source.randint(0, 8)):
        roll = with_paper(roll, number, _made_paper(source, roll, people))
    return roll


def _made_paper(source, roll, people):
    loans = [number for number, paper in enumerate(roll[1]) if paper[0] == "loan"]
    drawn = source.randint(0, 6)
    entered = source.choice([None, drawn, drawn + source.randint(0, 4)])
    one, other = source.sample(people, 2)
    kind = source.choice(["sale", "sale", "loan", "release"])
    if kind == "release" and loans:
        return ("release", one, source.choice(loans), drawn)
    if kind == "loan":
        return ("loan", one, other, source.choice(plots(roll)), source.randint(1, 9), drawn, entered)
    some = source.sample(plots(roll), source.randint(1, len(plots(roll))))
    return ("sale", one, other, tuple(sorted(some)), drawn, entered)


def ring_of_persons(roll):
    """A table that leads each person of a roll to the next one, in a ring."""
    some = names(roll)
    return dict(zip(some, some[1:] + some[:1]))
