"""[110], with [40] and [91]; [3] and [4] as far as they speak of them."""

import copy
import random
import unittest

from samples import (
    BARE, FORGED, LATER, RULE, RULES, SMALL, hanging_roll, odd_values, spoiled, told_doubts, told_holders,
)
from soundtitle import errors
from soundtitle.book import Book
from soundtitle.cases import Case
from soundtitle.errors import (
    Bound, Broken, Known, NoClaim, NoDeed, NoGroup, NoPaper, NoPlot, Nothing, Stopped, Wrong,
)
from soundtitle.forms import is_firsts, is_paper, is_rule
from soundtitle.numbers import holders_many
from soundtitle.rolls import plots, with_paper
from soundtitle.walks import holder

FIRSTS = (("acre", "fay"),)
TWO = (("acre", "fay"), ("moor", "gil"))
PAPERS = [("paper", 0, FORGED), ("paper", 1, LATER)]


def book_with(*deeds, firsts=FIRSTS):
    book = Book(firsts)
    for deed in deeds:
        book.do(deed)
    return book


def told(book):
    """All that can be asked of a book, but for what was taken back."""
    case = book.case()
    return [case.roll(), case.known(), case.groups(), case.most(), book.rule(), book.claims(), book.log(), len(book)]


def told_case(book):
    case = book.case()
    return (case.roll(), case.known(), case.groups(), case.most())


def is_told_deed(thing):
    """Whether a thing is a deed by its form, by the words of [110] once more."""
    def is_integer(part):
        return isinstance(part, int) and not isinstance(part, bool)

    if not isinstance(thing, tuple) or not thing or not isinstance(thing[0], str):
        return False
    word, *parts = thing
    if word in ("paper", "found", "claim"):
        if len(parts) != 2:
            return False
        one, other = parts
        if word == "claim":
            return is_firsts(((one, other),))
        return is_integer(one) and (is_paper(other) if word == "paper" else other in ("sound", "void"))
    if len(parts) != 1:
        return False
    part = parts[0]
    if word == "group":
        fine = isinstance(part, tuple) and all(is_integer(number) and number >= 0 for number in part)
        return fine and len(part) >= 2 and sorted(set(part)) == list(part)
    if word == "bound":
        return part is None or is_integer(part) and part >= 0
    return word == "rule" and is_rule(part) or word == "free" and is_integer(part)


class Plain:
    """A book once more, by plain values: its state, and what it was made by."""

    def __init__(self, firsts):
        self.state = (((firsts, ()), {}, (), None), ("drawn", "never"), ())
        self.done, self.undone = [], []

    def behind(self, deed):
        """The state behind a deed, or the error that it raises."""
        (roll, known, groups, most), rule, claims = self.state
        doubts = told_doubts(roll, known, groups)
        kind, *parts = deed
        if kind == "paper":
            at, paper = parts
            if not 0 <= at <= len(roll[1]):
                return NoPaper(at)
            try:
                longer = with_paper(roll, at, paper)
            except Wrong:
                return Wrong(2)
            roll, known = longer, {number + (number >= at): word for number, word in known.items()}
            groups = tuple(tuple(number + (number >= at) for number in group) for group in groups)
        elif kind == "found":
            number, word = parts
            if not 0 <= number < len(roll[1]):
                return NoPaper(number)
            if number in known:
                return Known(number)
            if most == 0 and word == "void":
                return Bound()
            doubt = [doubt for doubt in doubts if number in doubt][0]
            known = {**known, **{one: word for one in doubt}}
            groups = tuple(group for group in groups if group != doubt)
            most = most if most is None or word == "sound" else most - 1
        elif kind == "group":
            if not all((number,) in doubts for number in parts[0]):
                return NoGroup(parts[0])
            groups = tuple(sorted(groups + (parts[0],)))
        elif kind == "bound":
            most = parts[0]
        elif kind == "rule":
            rule = parts[0]
        elif kind == "claim":
            if parts[0] not in plots(roll):
                return NoPlot(parts[0])
            claims += (tuple(parts),)
        elif not 0 <= parts[0] < len(claims):
            return NoClaim(parts[0])
        else:
            claims = claims[:parts[0]] + claims[parts[0] + 1:]
        case = (roll, dict(sorted(known.items())), groups, most)
        for number, (plot, name) in enumerate(claims):
            losing = [truth for truth, other in told_holders(case, plot, rule).items() if other != name]
            if losing:
                return Broken(number, losing)
        return (case, rule, claims)

    def do(self, deed, state):
        self.done.append((deed, self.state))
        self.undone, self.state = [], state

    def turn(self, one, other):
        deed, state = one.pop()
        other.append((deed, self.state))
        self.state = state
        return deed


class Small(unittest.TestCase):
    def test_a_new_book(self):
        book = Book(FIRSTS)
        self.assertEqual(told(book), [BARE, {}, (), None, ("drawn", "never"), [], [], 0])
        self.assertEqual(book.case(), Case(BARE, {}, (), None))

    def test_each_deed(self):
        book = book_with(*PAPERS)
        self.assertEqual(book.case(), Case(SMALL, {}, (), None))
        self.assertIs(book.do(("rule", RULE)), None)
        self.assertEqual(book.rule(), RULE)
        self.assertIs(book.do(("group", (0, 1))), None)
        self.assertEqual(book.case(), Case(SMALL, {}, ((0, 1),), None))
        self.assertIs(book.do(("bound", 1)), None)
        self.assertEqual(book.case().most(), 1)
        self.assertIs(book.do(("found", 1, "void")), None)
        self.assertEqual(book.case(), Case(SMALL, {0: "void", 1: "void"}, (), 0))
        self.assertIs(book.do(("claim", "acre", "fay")), None)
        self.assertIs(book.do(("paper", 0, ("loan", "fay", "len", "acre", 5, 0, None))), None)
        self.assertEqual([book.case().known(), book.case().doubts()], [{1: "void", 2: "void"}, [(0,)]])
        self.assertIs(book.do(("bound", None)), None)
        self.assertIs(book.do(("claim", "acre", "fay")), None)
        self.assertEqual(book.claims(), [("acre", "fay"), ("acre", "fay")])
        self.assertIs(book.do(("free", 0)), None)
        self.assertEqual(book.claims(), [("acre", "fay")])
        self.assertEqual(len(book), 11)
        self.assertEqual(book.log()[2:6], [("rule", RULE), ("group", (0, 1)), ("bound", 1), ("found", 1, "void")])

    def test_claims_that_would_be_broken(self):
        book = book_with(*PAPERS, ("rule", RULE), ("bound", 0), ("claim", "acre", "bea"), ("claim", "acre", "bea"))
        for deed, number, truths in (
            (("bound", 1), 0, [(1,)]), (("bound", None), 0, [(0, 1), (1,)]), (("claim", "acre", "xan"), 2, [()]),
            (("paper", 2, ("sale", "bea", "zoe", ("acre",), 9, 9)), 0, [()]),
        ):
            before = told(book)
            with self.assertRaises(Broken) as caught:
                book.do(deed)
            self.assertEqual(caught.exception.number, number)
            self.assertIn(caught.exception.truth, truths)
            self.assertEqual(told(book), before)
        # A rule by which a forged paper is nothing worth.
        book = book_with(*PAPERS, ("found", 0, "void"), ("rule", ("entered", "once")), ("claim", "acre", "bea"))
        with self.assertRaises(Broken) as caught:
            book.do(("rule", ("drawn", "never")))
        self.assertEqual([caught.exception.number, caught.exception.truth in ((0,), (0, 1))], [0, True])
        # The least claim of those that are broken.
        book = book_with(("claim", "moor", "gil"), ("claim", "acre", "fay"), ("claim", "moor", "gil"), firsts=TWO)
        for plot, seller, number in (("acre", "fay", 1), ("moor", "gil", 0)):
            with self.assertRaises(Broken) as caught:
                book.do(("paper", 0, ("sale", seller, "xan", (plot,), 1, 1)))
            self.assertEqual([caught.exception.number, caught.exception.truth], [number, ()])

    def test_a_claim_taken_away_lets_what_broke_it(self):
        book = book_with(("claim", "acre", "fay"))
        with self.assertRaises(Broken):
            book.do(PAPERS[0])
        book.do(("free", 0))
        book.do(PAPERS[0])
        self.assertEqual([len(book), book.claims()], [3, []])

    def test_what_does_not_fit(self):
        book = book_with(*PAPERS, ("found", 0, "void"), ("bound", 0), firsts=TWO)
        sale = ("sale", "fay", "xan", ("acre",), 1, 2)
        for deed, kind, field, worth in (
            (("paper", 3, sale), NoPaper, "number", 3), (("paper", -1, sale), NoPaper, "number", -1),
            (("paper", 9, ("release", "len", 0, 1)), NoPaper, "number", 9),
            (("paper", 0, ("release", "len", 0, 1)), Wrong, "place", 2),
            (("paper", 1, ("sale", "fay", "xan", ("acre", "weir"), 1, 2)), Wrong, "place", 2),
            (("found", 2, "void"), NoPaper, "number", 2), (("found", -1, "sound"), NoPaper, "number", -1),
            (("found", 0, "void"), Known, "number", 0), (("found", 0, "sound"), Known, "number", 0),
            (("found", 1, "void"), Bound, None, None), (("group", (0, 1)), NoGroup, "numbers", (0, 1)),
            (("group", (1, 2)), NoGroup, "numbers", (1, 2)),
            (("group", (5, 10 ** 39)), NoGroup, "numbers", (5, 10 ** 39)),
            (("claim", "weir", "fay"), NoPlot, "plot", "weir"), (("free", 0), NoClaim, "number", 0),
            (("free", -1), NoClaim, "number", -1),
        ):
            before = told(book)
            with self.assertRaises(kind) as caught:
                book.do(deed)
            if field is not None:
                self.assertEqual(getattr(caught.exception, field), worth)
            self.assertEqual(told(book), before)

    def test_a_paper_in_a_group_makes_no_other_group(self):
        loans = [("paper", 0, ("loan", "fay", "len", "acre", 5, 1, None))] * 4
        book = book_with(*loans, ("group", (1, 3)))
        for numbers in ((0, 1), (1, 3), (2, 3), (0, 1, 2, 3)):
            with self.assertRaises(NoGroup) as caught:
                book.do(("group", numbers))
            self.assertEqual(caught.exception.numbers, numbers)
        book.do(("group", (0, 2)))
        self.assertEqual(book.case().groups(), ((0, 2), (1, 3)))


class Turns(unittest.TestCase):
    def test_back_and_again(self):
        book = book_with(*PAPERS, ("rule", RULE))
        states = [told(book)]
        for deed in (("rule", RULE), PAPERS[1], PAPERS[0]):
            self.assertEqual(book.back(), deed)
            states.append(told(book))
        self.assertEqual(states[-1], told(Book(FIRSTS)))
        with self.assertRaises(Nothing):
            book.back()
        for deed, state in zip([*PAPERS, ("rule", RULE)], states[-2::-1]):
            self.assertEqual(book.again(), deed)
            self.assertEqual(told(book), state)
        with self.assertRaises(Nothing):
            book.again()
        self.assertEqual(told(book), states[0])

    def test_a_new_deed_forgets_what_was_taken_back(self):
        book = book_with(*PAPERS)
        book.back()
        book.do(("bound", 3))
        with self.assertRaises(Nothing):
            book.again()
        # What is refused is not done.
        book.back()
        for thing in (("free", 0), None, ("claim", "acre", "zoe")):
            with self.assertRaises(errors.TitleError):
                book.do(thing)
        self.assertEqual(book.again(), ("bound", 3))
        book.back()
        self.assertEqual([book.back(), book.again(), book.back()], [PAPERS[0]] * 3)
        self.assertEqual([book.again(), book.again()], [PAPERS[0], ("bound", 3)])

    def test_copies(self):
        book = book_with(*PAPERS, ("rule", RULE))
        book.back()
        other = book.copied()
        self.assertEqual([other, told(other)], [book, told(book)])
        self.assertEqual(other.again(), ("rule", RULE))
        self.assertEqual([book.rule(), other.rule()], [("drawn", "never"), RULE])
        other.do(("bound", 1))
        self.assertEqual([len(book), len(other), book.again()], [2, 4, ("rule", RULE)])
        book.back()
        book.back()
        self.assertEqual([len(book), other.log()[-1]], [1, ("bound", 1)])
        self.assertEqual([other.back(), other.back()], [("bound", 1), ("rule", RULE)])

    def test_trials(self):
        book = book_with(PAPERS[0])
        book.do(("bound", 1))
        book.back()
        before = told(book)
        deeds = [PAPERS[1], ("rule", RULE), ("bound", 0), ("claim", "acre", "bea")]
        kept = copy.deepcopy(deeds)
        found = book.trial(deeds)
        self.assertEqual(found, book_with(*PAPERS, *deeds[1:]))
        self.assertEqual([found.log(), deeds], [[PAPERS[0], *deeds], kept])
        with self.assertRaises(Nothing):
            found.again()
        self.assertEqual(told(book), before)
        # Without deeds it is a copy, with what was taken back.
        found = book.trial([])
        self.assertEqual([found.again(), book.again()], [("bound", 1), ("bound", 1)])

    def test_a_trial_that_stops(self):
        book = book_with(*PAPERS)
        book.back()
        before = told(book)
        for deeds, index in (
            ([None], 0), ([PAPERS[1], ("free", 0), None], 1), ([PAPERS[1], PAPERS[1], ("claim", "acre", "bea")], 2),
            ([PAPERS[1], []], 1), ([("found", 1, "void")], 0), ([book], 0), (odd_values(), 0),
        ):
            with self.assertRaises(Stopped) as caught:
                book.trial(deeds)
            self.assertEqual(caught.exception.index, index)
            self.assertEqual(told(book), before)
        self.assertEqual(book.again(), PAPERS[1])

    def test_equal_books(self):
        one, other = book_with(*PAPERS, ("rule", RULE)), book_with(("rule", ("both", "once")), ("paper", 0, LATER))
        self.assertFalse(one == other)
        other.do(("paper", 0, FORGED))
        self.assertFalse(one == other)
        other.do(("rule", RULE))
        # The logs are unlike, and so is what may be taken back.
        self.assertTrue(one == other)
        self.assertEqual([len(one), len(other)], [3, 4])
        one.do(("bound", 0))
        self.assertFalse(one == other)
        other.do(("bound", 0))
        one.do(("claim", "acre", "bea"))
        self.assertTrue(one != other)
        other.do(("claim", "acre", "bea"))
        self.assertTrue(one == other)
        self.assertFalse(Book(FIRSTS) == Book(TWO))
        for thing in odd_values():
            self.assertIs(Book(FIRSTS) == thing, False)
            self.assertIs(thing == Book(FIRSTS), False)
        self.assertIs(Book(FIRSTS) == Book(FIRSTS), True)

    def test_what_is_returned_may_be_changed(self):
        book = book_with(*PAPERS, ("bound", 0), ("rule", RULE), ("claim", "acre", "bea"))
        before = told(book)
        book.claims().clear()
        book.log().clear()
        book.case().known()[0] = "void"
        book.case().doubts().clear()
        self.assertEqual(told(book), before)


class Refused(unittest.TestCase):
    def test_firsts(self):
        for thing in odd_values() + [(("acre", "fay"), ("acre", "gil")), (("moor", "fay"), ("acre", "gil"))]:
            with self.assertRaises(Wrong) as caught:
                Book(thing)
            self.assertEqual(caught.exception.place, 0)
        for thing in spoiled(TWO):
            if not is_firsts(thing):
                with self.assertRaises(Wrong):
                    Book(thing)

    def test_what_is_no_deed(self):
        book = book_with(*PAPERS)
        before = told(book)
        deeds = [
            PAPERS[0], ("found", 1, "void"), ("group", (0, 1)), ("bound", 1), ("bound", None), ("rule", RULE),
            ("claim", "acre", "bea"), ("free", 0), ("paper", 0, ("release", "len", 4, 1)),
        ]
        for thing in odd_values() + [one for deed in deeds for one in spoiled(deed)]:
            if not is_told_deed(thing):
                with self.assertRaises(NoDeed):
                    book.do(thing)
        self.assertEqual(told(book), before)

    def test_some_that_are_no_deeds(self):
        book = book_with(*PAPERS)
        for thing in (
            (), ("back",), ("again",), ("rule",), ("free", None), ("free", False), ("free", True), ("bound", -1),
            ("bound", True), ("bound",), ("bound", "none"), ("found", True, "void"), ("found", 0, None),
            ("found", "0", "void"), ("found", 0), ("group", (0,)), ("group", (1, 0)), ("group", (0, 0)),
            ("group", (0, True)), ("group", (False, 1)), ("group", [0, 1]), ("group", 0, 1), ("group", (-1, 1)),
            ("group", ()), ("rule", "drawn", "never"), ("rule", ["drawn", "never"]), ("rule", ("never", "drawn")),
            ("claim", "acre"), ("claim", "acre", "sale"), ("claim", "Acre", "fay"), ("claim", None, "fay"),
            ("claim", "acre", "fay", "gil"), ("paper", 0), ("paper", True, FORGED), ("paper", 0, None),
            ("paper", FORGED, 0), ("paper", 0, list(FORGED)), ["bound", 1], "bound 1", {"bound": 1}, ("Bound", 1),
            ("paper", None, FORGED), ("paper", 0, ("release", "len", -1, 1)), ([], 1), (None, None), (("bound",), 1),
        ):
            with self.assertRaises(NoDeed):
                book.do(thing)
        self.assertEqual([len(book), book.log()], [2, PAPERS])


class Model(unittest.TestCase):
    """Books, held against plain values, deed by deed."""

    PEOPLE = ["ann", "bob", "cid"]

    def made_deed(self, source, plain):
        (roll, known, groups, _), rule, claims = plain.state
        many = len(roll[1])
        kind = source.choice([
            "paper", "paper", "paper", "found", "group", "bound", "rule", "claim", "claim", "free",
        ])
        if kind == "paper" and many < 6:
            one, other = source.sample(self.PEOPLE, 2)
            day = source.randint(0, 5)
            some = source.choice([("acre",), ("moor",), ("acre", "moor"), ("weir",)])
            paper = ("sale", one, other, some, day, source.choice([None, day, day + 2]))
            if source.random() < 0.3:
                paper = ("loan", one, other, some[0], 5, day, None)
            elif source.random() < 0.2:
                paper = ("release", one, source.randint(0, 3), day)
            return ("paper", source.randint(-1, many + 1), paper)
        if kind == "found":
            return ("found", source.randint(-1, many), source.choice(["sound", "void"]))
        if kind == "group":
            numbers = range(many + 2)
            return ("group", tuple(sorted(source.sample(numbers, min(len(numbers), source.choice([2, 2, 3]))))))
        if kind == "bound":
            return ("bound", source.choice([None, 0, 1, 2, 3]))
        if kind == "rule":
            return ("rule", source.choice(RULES))
        if kind == "claim":
            return ("claim", source.choice(["acre", "moor", "weir"]), source.choice(self.PEOPLE))
        return ("free", source.randint(-1, len(claims)))

    def assert_done(self, book, plain, deed):
        expected = plain.behind(deed)
        if isinstance(expected, Exception):
            with self.assertRaises(type(expected)) as caught:
                book.do(deed)
            found = caught.exception
            if isinstance(expected, Broken):
                self.assertEqual(found.number, expected.number)
                self.assertIn(found.truth, expected.truth)
            else:
                self.assertEqual(vars(found), vars(expected))
            return type(expected)
        self.assertIs(book.do(deed), None)
        plain.do(deed, expected)
        return None

    def test_many_deeds(self):
        source = random.Random(9)
        seen = {}
        for _ in range(120):
            firsts = source.choice([(("acre", "ann"),), (("acre", "ann"), ("moor", "bob"))])
            book, plain = Book(firsts), Plain(firsts)
            for _ in range(40):
                turn = source.random()
                if turn < 0.12:
                    self.assert_turned(book.back, plain, plain.done, plain.undone)
                elif turn < 0.22:
                    self.assert_turned(book.again, plain, plain.undone, plain.done)
                elif turn < 0.3:
                    other = book.copied()
                    self.assertEqual(told(other), told(book))
                    book = other
                else:
                    kind = self.assert_done(book, plain, self.made_deed(source, plain))
                    seen[kind] = seen.get(kind, 0) + 1
                self.assertEqual((told_case(book), book.rule(), tuple(book.claims())), plain.state)
                self.assertEqual(book.log(), [deed for deed, _ in plain.done])
                self.assertEqual(len(book), len(plain.done))
        for kind in (None, Broken, Bound, Known, NoClaim, NoGroup, NoPaper, NoPlot, Wrong):
            self.assertGreater(seen.get(kind, 0), 1, kind)

    def assert_turned(self, call, plain, one, other):
        if one:
            self.assertEqual(call(), plain.turn(one, other))
        else:
            with self.assertRaises(Nothing):
                call()

    def test_trials(self):
        source = random.Random(10)
        for _ in range(60):
            firsts = (("acre", "ann"), ("moor", "bob"))
            book, plain = Book(firsts), Plain(firsts)
            for _ in range(8):
                self.assert_done(book, plain, self.made_deed(source, plain))
            deeds = [self.made_deed(source, plain) for _ in range(3)]
            before, stopped = told(book), None
            for index, deed in enumerate(deeds):
                state = plain.behind(deed)
                if isinstance(state, Exception):
                    stopped = index
                    break
                plain.do(deed, state)
            if stopped is None:
                found = book.trial(deeds)
                self.assertEqual((told_case(found), found.rule(), tuple(found.claims())), plain.state)
                self.assertEqual(found.log(), book.log() + deeds)
            else:
                with self.assertRaises(Stopped) as caught:
                    book.trial(deeds)
                self.assertEqual(caught.exception.index, stopped)
            self.assertEqual(told(book), before)


class Forty(unittest.TestCase):
    def test_forty_papers_and_a_claim(self):
        roll = hanging_roll(1)
        deeds = [("paper", at, paper) for at, paper in enumerate(roll[1])]
        book = book_with(("claim", "moor", "gil"), *deeds, firsts=(("acre", "ann"), ("moor", "gil")))
        self.assertEqual([book.case().roll()[1], len(book), book.claims()], [roll[1], 41, [("moor", "gil")]])
        for rule in RULES[::4]:
            book.do(("rule", rule))
            holders = holders_many(book.case(), "acre", rule)
            with self.assertRaises(Broken) as caught:
                book.do(("claim", "acre", "ann"))
            truth = caught.exception.truth
            self.assertEqual(caught.exception.number, 1)
            self.assertIn(holder(book.case().roll(), "acre", rule, truth), [name for name in holders if name != "ann"])


if __name__ == "__main__":
    unittest.main()
