"""Rolls, Cases and odd values that several tests use, and what the document says of them, told once more plainly."""

import fractions
import itertools
import random

from soundtitle import errors
from soundtitle.book import Book
from soundtitle.cases import Case
from soundtitle.desk import Desk
from soundtitle.graph import Graph
from soundtitle.moments import moments
from soundtitle.rolls import first_of, names, plots, with_paper

FORGED = ("sale", "fay", "xan", ("acre",), 1, 2)
LATER = ("sale", "xan", "bea", ("acre",), 5, 6)
# The roll of the document's examples.
SMALL = ((("acre", "fay"),), (FORGED, LATER))

# Two plots, with a sale of both, loans, releases in and out of place, and days that fall together.
WIDE = (
    (("acre", "fay"), ("moor", "gil")),
    (
        ("loan", "fay", "len", "acre", 70, 3, 4),
        ("sale", "fay", "xan", ("acre", "moor"), 3, 3),
        ("release", "len", 0, 4),
        ("sale", "gil", "bea", ("moor",), 2, None),
        ("loan", "gil", "moe", "moor", 1, 0, None),
        ("release", "moe", 4, 0),
        ("sale", "xan", "fay", ("acre",), 3, 9),
        ("release", "zoe", 4, 11),
    ),
)

BARE = ((("acre", "fay"),), ())

RULE = ("entered", "next")
RULES = [
    ("both", "never"), ("both", "next"), ("both", "once"),
    ("drawn", "never"), ("drawn", "next"), ("drawn", "once"),
    ("entered", "never"), ("entered", "next"), ("entered", "once"),
    ("innocent", "never"), ("innocent", "next"), ("innocent", "once"),
]


def deep(many):
    thing = ()
    for _ in range(many):
        thing = (thing,)
    return thing


def odd_values():
    """Values of all kinds that a function which takes any value may be handed."""
    return [
        None, True, False, 0, 1, -1, 2, 10 ** 39, -(10 ** 39),
        "", " ", "a", "acre", "fay", "nobody", "Acre", "a b", "acre\n", "sale", "sound", "0", "~",
        [], (), {}, [0], (0,), ("acre",), ["acre"], {"acre": 1}, {(0, 1): [None]}, [[]], ((),), (True,), deep(29),
        [[[[{"a": (1, [2, {}])}]]]], tuple(range(2900)), (None, "a", 1, [], {}),
        errors.TitleError(), errors.Wrong(2), errors.NoPlot([]), [errors.Bound()], (errors.Needed(0, 1),),
        FORGED, list(FORGED), SMALL, list(SMALL), ("drawn", "never"),
        Case(SMALL, {}, (), None), [Case(SMALL, {0: "void"}, (), 1)], Graph(Case(BARE, {}, (), 0), "acre", RULE),
        Book((("weir", "zoe"),)), (Desk((("weir", "zoe"),)),),
    ]


def spoiled(thing):
    """All values that come from a tuple by exchanging, leaving out or adding one part, however deep."""
    for at, part in enumerate(thing):
        yield thing[:at] + thing[at + 1:]
        for other in odd_values():
            yield thing[:at] + (other,) + thing[at + 1:]
        if isinstance(part, tuple):
            for other in spoiled(part):
                yield thing[:at] + (other,) + thing[at + 1:]
    for at in range(len(thing) + 1):
        for other in (None, True, 0, "acre", (), []):
            yield thing[:at] + (other,) + thing[at:]
    yield list(thing)


def made_rolls(many):
    """Rolls of a few papers, the same ones in each run."""
    source = random.Random(7)
    return [_made_roll(source) for _ in range(many)]


def _made_roll(source):
    held = sorted(source.sample(["acre", "glen", "moor"], source.randint(1, 3)))
    people = ["ann", "bob", "cid", "dan"]
    roll = (tuple((plot, source.choice(people)) for plot in held), ())
    for number in range(source.randint(0, 8)):
        roll = with_paper(roll, number, _made_paper(source, roll, people))
    return roll


def _made_paper(source, roll, people):
    loans = [number for number, paper in enumerate(roll[1]) if paper[0] == "loan"]
    drawn = source.randint(0, 6)
    entered = source.choice([None, drawn, drawn + source.randint(0, 4)])
    one, other = source.sample(people, 2)
    kind = source.choice(["sale", "sale", "loan", "release"])
    if kind == "release" and loans:
        return ("release", one, source.choice(loans), drawn)
    if kind == "loan":
        return ("loan", one, other, source.choice(plots(roll)), source.randint(1, 9), drawn, entered)
    some = source.sample(plots(roll), source.randint(1, len(plots(roll))))
    return ("sale", one, other, tuple(sorted(some)), drawn, entered)


def ring_of_persons(roll):
    """A table that leads each person of a roll to the next one, in a ring."""
    some = names(roll)
    return dict(zip(some, some[1:] + some[:1]))


def made_cases(many):
    """The arguments of Cases of few papers, with known words, groups and bounds, the same ones in each run."""
    source = random.Random(11)
    return [_made_case(source, roll) for roll in made_rolls(many)]


def _made_case(source, roll):
    numbers = list(range(len(roll[1])))
    source.shuffle(numbers)
    known = {number: source.choice(["sound", "void"]) for number in numbers[:source.choice([0, 0, 1, 2])]}
    numbers = numbers[len(known):]
    groups = []
    while len(numbers) >= 2 and source.random() < 0.4:
        size = source.choice([2, 2, 3])
        if len(numbers) >= size:
            groups.append(tuple(sorted(numbers[:size])))
        numbers = numbers[size:]
    return (roll, known, tuple(groups), source.choice([None, None, 0, 1, 2, 3]))


def long_roll(seed, kinds=("sale",)):
    """A roll of one plot and forty papers, of which nine at most are drawn and still to be entered at a place."""
    source = random.Random(seed)
    people = ["ann", "bob", "cid", "dan", "eve", "fay", "gil", "hal"][:source.choice([4, 6, 8])]
    papers, waiting = [], []
    day = 0
    while len(papers) < 40 or waiting:
        day += source.choice([0, 1, 1])
        if len(papers) < 40 and len(waiting) < 9 and (len(waiting) < 6 or source.random() < 0.6):
            waiting.append(len(papers))
            one, other = source.sample(people, 2)
            kind = source.choice(kinds)
            papers.append([kind, one, other, ("acre",), day] if kind == "sale" else [kind, one, other, "acre", 5, day])
        else:
            papers[waiting.pop(source.randrange(len(waiting)))].append(day)
    return ((("acre", "ann"),), tuple(tuple(paper) for paper in papers))


def told_states(roll, plot, rule, truth, later=None, change=None):
    """The states of a plot, by the words of [5] and [6] once more, step by step; and of [83], if the rule changes."""
    prior, forged = rule
    shown = holder = base = first_of(roll, plot)
    rows = moments(roll, plot)
    line, row = [(holder, base, ())], []
    shown_ahead, ahead = {}, [first_of(roll, plot)]
    for day, number, word in rows:
        shown_ahead.setdefault(day, ahead[-1])
        paper = roll[1][number]
        if word == "entered" and paper[0] == "sale" and paper[1] == ahead[-1]:
            ahead.append(paper[2])
    for day, number, word in rows:
        if later is not None and day >= change:
            base, row = told_states(roll, plot, later, truth)[len(line) - 1][1], []
            prior, forged = later
            later = None
        paper = roll[1][number]
        if paper[0] != "sale":
            line.append((holder, base, tuple(row)))
            continue
        _, seller, buyer, _, _, entered = paper
        sound = number not in truth
        innocent = shown_ahead[paper[4]] == seller
        old_holder, old_base, old_row = holder, base, list(row)
        if word == "drawn" and sound:
            if seller == old_holder:
                holder = buyer
                if entered is not None and prior in ("entered", "both"):
                    row = old_row + [number]
            elif prior == "innocent" and innocent and seller == old_base:
                holder = buyer
        if word == "entered":
            if forged == "never":
                if sound and seller == old_base:
                    base = buyer
            elif seller == shown:
                base = buyer
            if seller == shown:
                shown = buyer
            if number in old_row:
                if seller == old_base:
                    row = old_row[old_row.index(number) + 1:]
                else:
                    row = [other for other in old_row if other != number]
            elif sound:
                if seller == old_base and (prior == "entered" or prior == "both" and innocent):
                    holder, row = buyer, []
            elif seller == old_base and forged == "once" and prior != "drawn" and innocent:
                holder, row = buyer, []
        line.append((holder, base, tuple(row)))
    return line


def told_doubts(roll, known, groups):
    grouped = [number for group in groups for number in group]
    alone = [number for number in range(len(roll[1])) if number not in known and number not in grouped]
    return sorted([*groups, *[(number,) for number in alone]])


def told_losses(roll, plot, rule, truth):
    """The numbers of the moments at which somebody loses a plot by an override."""
    line = told_states(roll, plot, rule, truth)
    found = []
    for at, (_, number, word) in enumerate(moments(roll, plot)):
        # Who sells what he holds when the sale is drawn loses nothing by an override.
        given = word == "drawn" and roll[1][number][1] == line[at][0]
        if line[at][0] != line[at + 1][0] and not given:
            found.append(at)
    return found


def told_standing(roll, plot, rule, truth):
    """The tuples of the loans that stand, place by place, by the words of [7] once more, loan by loan."""
    line = told_states(roll, plot, rule, truth)
    rows = moments(roll, plot)
    losses = told_losses(roll, plot, rule, truth)
    found = [[] for _ in line]
    for number, paper in enumerate(roll[1]):
        if paper[0] != "loan" or paper[3] != plot or number in truth:
            continue
        begin = rows.index((paper[5], number, "drawn"))
        if line[begin][0] != paper[1]:
            continue
        entered = len(rows) if paper[6] is None else rows.index((paper[6], number, "entered"))
        ends = [at for at in losses if begin < at < entered]
        for other, release in enumerate(roll[1]):
            if release[:3] == ("release", paper[2], number) and other not in truth:
                ends.append(rows.index((release[3], other, "drawn")))
        ends = [at for at in ends if at > begin]
        for at in range(begin, min(ends, default=len(rows))):
            found[at + 1].append(number)
    return [tuple(loans) for loans in found]


def told_truths(roll, known, groups, most):
    """All truths of a Case of few papers, by the words of [40] once more: of all lots of papers, those that fit."""
    doubts = told_doubts(roll, known, groups)
    found = []
    for size in range(len(roll[1]) + 1):
        for truth in itertools.combinations(range(len(roll[1])), size):
            void = [doubt for doubt in doubts if doubt[0] in truth]
            fits = all((number in truth) == (word == "void") for number, word in known.items())
            whole = all(len({number in truth for number in doubt}) == 1 for doubt in doubts)
            if fits and whole and (most is None or len(void) <= most):
                found.append(truth)
    return sorted(found)


def told_open(roll, known, groups, plot, place):
    """The heads of the doubts that are open at a place, by the words of [50] once more."""
    numbers = [number for _, number, _ in moments(roll, plot)]
    found = []
    for doubt in told_doubts(roll, known, groups):
        if any(n in doubt for n in numbers[:place]) and any(n in doubt for n in numbers[place:]):
            found.append(doubt[0])
    return found


def told_node(roll, known, groups, plot, rule, truth, place):
    words = [(head, "void" if head in truth else "sound") for head in told_open(roll, known, groups, plot, place)]
    return (told_states(roll, plot, rule, truth)[place], tuple(words))


def told_holders(arguments, plot, rule):
    """The dict from all truths of a Case of few papers, ascending, to who holds a plot in them."""
    truths = told_truths(*arguments)
    return {truth: told_states(arguments[0], plot, rule, truth)[-1][0] for truth in truths}


def told_voids(arguments, truth):
    """The heads of the doubts that are void in a truth of a Case."""
    return [doubt[0] for doubt in told_doubts(*arguments[:3]) if doubt[0] in truth]


def told_lot(arguments, truth):
    return {(doubt[0], "void" if doubt[0] in truth else "sound") for doubt in told_doubts(*arguments[:3])}


def all_lots(heads):
    """All lots of words of some doubts, told by their heads."""
    found = []
    for words in itertools.product(("sound", "void", None), repeat=len(heads)):
        found.append(tuple((head, word) for head, word in zip(heads, words) if word is not None))
    return found


def asked(many, doubts=8):
    """Tuples (arguments, plot, rule), each made Case of so few doubts with each plot, and a few rules by turns."""
    found = []
    for at, arguments in enumerate(made_cases(many)):
        if len(told_doubts(*arguments[:3])) <= doubts:
            for place, plot in enumerate(plots(arguments[0])):
                for step in range(3):
                    found.append((arguments, plot, RULES[(5 * at + 7 * place + 4 * step) % 12]))
    return found


def shuffled(roll, seed):
    """A roll without releases, the papers of which stand in another order: numbers do not go with days any more."""
    papers = list(roll[1])
    random.Random(seed).shuffle(papers)
    return (roll[0], tuple(papers))


def lively_roll(source, size):
    """A roll whose papers hang together: mostly who sells or borrows has held the plot, and releases are in place."""
    people = ["ann", "bob", "cid", "dan"]
    held = ["acre", "moor"][:source.choice([1, 1, 2])]
    roll = (tuple((plot, "ann") for plot in held), ())
    holders, day = ["ann"], 0
    for number in range(size):
        day += source.choice([0, 1, 1, 2])
        entered = source.choice([None, day, day + 1, day + source.randint(0, 6)])
        one = source.choice(holders + holders[-1:])
        other = source.choice([name for name in people if name != one])
        loans = [at for at, paper in enumerate(roll[1]) if paper[0] == "loan"]
        kind = source.choice(["sale", "sale", "sale", "loan", "release"])
        if kind == "release" and loans:
            loan = source.choice(loans)
            paper = ("release", source.choice([roll[1][loan][2], roll[1][loan][2], other]), loan, day)
        elif kind == "loan":
            paper = ("loan", one, other, source.choice(held), source.randint(1, 9), day, entered)
        else:
            paper = ("sale", one, other, tuple(held) if source.random() < 0.2 else (source.choice(held),), day, entered)
            holders.append(other)
        roll = with_paper(roll, source.randint(0, number) if source.random() < 0.1 and not loans else number, paper)
    return roll


def lively(many, size, seed=1):
    """Tuples (arguments, plot, rule) of Cases of so many papers that hang together, the same ones in each run."""
    source = random.Random(seed)
    found = []
    for at in range(many):
        arguments = _made_case(source, lively_roll(source, size))
        found.append((arguments, source.choice(plots(arguments[0])), RULES[at % 12]))
    return found


def small_cases(many, doubts=6):
    """Arguments of small Cases of both kinds, with the dict from the rules to that from plots to told holders.

    The inner dicts lead from all truths of the Case, ascending, to who holds the plot.
    """
    found = [arguments for arguments in made_cases(many) if len(told_doubts(*arguments[:3])) <= doubts]
    found += [arguments for arguments, _, _ in lively(many, doubts, 21)]
    for arguments in found:
        yield arguments, {
            rule: {plot: told_holders(arguments, plot, rule) for plot in plots(arguments[0])} for rule in RULES
        }


def hanging_roll(seed):
    """A roll of one plot and forty sales as long_roll makes them, each by one who has got it by an earlier one."""
    source = random.Random(seed)
    people = ["ann", "bob", "cid", "dan", "eve", "fay", "gil", "hal"]
    papers, waiting, held, day = [], [], ["ann"], 0
    while len(papers) < 40 or waiting:
        day += source.choice([0, 1, 1])
        if len(papers) < 40 and len(waiting) < 9 and (len(waiting) < 6 or source.random() < 0.6):
            waiting.append(len(papers))
            one = source.choice(held[-5:])
            held.append(source.choice([name for name in people if name != one]))
            papers.append(["sale", one, held[-1], ("acre",), day])
        else:
            papers[waiting.pop(source.randrange(len(waiting)))].append(day)
    return ((("acre", "ann"),), tuple(tuple(paper) for paper in papers))


def made_shares(source, heads):
    """Shares for some doubts, some of them none or all."""
    found = {}
    for head in heads:
        bottom = source.randint(1, 9)
        share = fractions.Fraction(source.choice([0, bottom, source.randint(0, bottom)]), bottom)
        found[head] = (share.numerator, share.denominator)
    return found


def told_weight(shares, truth):
    """How likely it is that just those of the doubts are void that are so in a truth."""
    found = fractions.Fraction(1)
    for head, (top, bottom) in shares.items():
        share = fractions.Fraction(top, bottom)
        found = found * (share if head in truth else 1 - share)
    return found
