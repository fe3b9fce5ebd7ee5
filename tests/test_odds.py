"""[52]; [3] and [4] as far as they speak of it."""

import copy
import random
import unittest
from fractions import Fraction

from samples import (
    BARE, RULE, RULES, SMALL, WIDE, asked, lively, long_roll, made_shares, told_doubts, told_holders, told_states,
    told_truths, told_weight,
)
from soundtitle.cases import Case
from soundtitle.errors import NoPlot, Unlikely
from soundtitle.numbers import holders_many, numbers
from soundtitle.odds import added, chance, odds, over, times

CASE = Case(SMALL, {}, (), None)


def as_tuple(number):
    return (number.numerator, number.denominator)


def told_odds(shares, holders):
    """The dict that odds returns, or None, holders being the dict from all truths to who holds the plot."""
    whole = sum(told_weight(shares, truth) for truth in holders)
    if whole == 0:
        return None
    found = {}
    for truth, name in holders.items():
        found[name] = found.get(name, 0) + told_weight(shares, truth)
    return {name: as_tuple(found[name] / whole) for name in sorted(found)}


class Fractions(unittest.TestCase):
    def test_lowest_terms(self):
        self.assertEqual(added((1, 6), (1, 3)), (1, 2))
        self.assertEqual(added((0, 1), (0, 1)), (0, 1))
        self.assertEqual(added((1, 2), (1, 2)), (1, 1))
        self.assertEqual(times((2, 3), (3, 4)), (1, 2))
        self.assertEqual(times((5, 7), (0, 1)), (0, 1))
        self.assertEqual(over((1, 2), (1, 4)), (2, 1))
        self.assertEqual(over((0, 1), (7, 3)), (0, 1))

    def test_all_small_ones(self):
        some = sorted({Fraction(top, bottom) for top in range(8) for bottom in range(1, 7)})
        for one in some:
            for other in some:
                pair = (as_tuple(one), as_tuple(other))
                self.assertEqual(added(*pair), as_tuple(one + other))
                self.assertEqual(times(*pair), as_tuple(one * other))
                if other:
                    self.assertEqual(over(*pair), as_tuple(one / other))

    def test_long_ones(self):
        one, other = Fraction(10 ** 39 + 7, 3 ** 80), Fraction(6 ** 40, 10 ** 38 + 9)
        self.assertEqual(added(as_tuple(one), as_tuple(other)), as_tuple(one + other))
        self.assertEqual(over(as_tuple(one), as_tuple(other)), as_tuple(one / other))


class Chance(unittest.TestCase):
    def test_no_bound(self):
        self.assertEqual(chance(CASE, {0: (1, 4), 1: (1, 2)}), (1, 1))
        self.assertEqual(chance(CASE, {0: (1, 1), 1: (0, 1)}), (1, 1))
        self.assertEqual(chance(Case(BARE, {}, (), 0), {}), (1, 1))

    def test_the_bound(self):
        shares = {0: (1, 4), 1: (1, 2)}
        self.assertEqual(
            [chance(Case(SMALL, {}, (), most), shares) for most in range(4)], [(3, 8), (7, 8), (1, 1), (1, 1)]
        )
        self.assertEqual(chance(Case(SMALL, {}, ((0, 1),), 0), {0: (2, 7)}), (5, 7))
        self.assertEqual(chance(Case(SMALL, {}, (), 1), {0: (1, 1), 1: (1, 1)}), (0, 1))
        # What is known to be void is no void doubt.
        self.assertEqual(chance(Case(SMALL, {0: "void"}, (), 0), {1: (1, 3)}), (2, 3))

    def test_made_cases(self):
        source = random.Random(3)
        for arguments, _, _ in asked(60)[::3]:
            shares = made_shares(source, [doubt[0] for doubt in told_doubts(*arguments[:3])])
            whole = sum(told_weight(shares, truth) for truth in told_truths(*arguments))
            self.assertEqual(chance(Case(*arguments), shares), as_tuple(whole + Fraction(0)))

    def test_forty_doubts(self):
        shares = {head: (1, 2) for head in range(40)}
        case = Case(long_roll(0), {}, (), 17)
        self.assertEqual(chance(case, shares), as_tuple(Fraction(case.count(), 2 ** 40)))
        shares = {head: (1, head + 2) for head in range(40)}
        case = Case(long_roll(0), {}, (), 39)
        self.assertEqual(chance(case, shares), as_tuple(1 - told_weight(shares, tuple(range(40)))))


class Odds(unittest.TestCase):
    def test_the_example_of_the_document(self):
        self.assertEqual(
            list(odds(CASE, "acre", ("entered", "next"), {0: (1, 4), 1: (1, 2)}).items()),
            [("bea", (1, 2)), ("fay", (1, 8)), ("xan", (3, 8))],
        )

    def test_those_that_are_not_likely_at_all_are_told(self):
        self.assertEqual(
            list(odds(CASE, "acre", RULE, {0: (0, 1), 1: (1, 3)}).items()),
            [("bea", (2, 3)), ("fay", (0, 1)), ("xan", (1, 3))],
        )
        self.assertEqual(
            odds(CASE, "acre", RULE, {0: (1, 1), 1: (1, 1)}), {"bea": (0, 1), "fay": (1, 1), "xan": (0, 1)}
        )

    def test_given_that_it_is_a_truth_of_the_case(self):
        self.assertEqual(
            odds(Case(SMALL, {}, (), 1), "acre", RULE, {0: (1, 4), 1: (1, 2)}), {"bea": (4, 7), "xan": (3, 7)}
        )

    def test_no_papers(self):
        self.assertEqual(odds(Case(BARE, {}, (), 0), "acre", RULE, {}), {"fay": (1, 1)})

    def test_doubts_without_a_moment_of_the_plot(self):
        case = Case(WIDE, {}, ((3, 5),), 1)
        shares = {head: (1, 3) for head in (0, 1, 2, 3, 4, 6, 7)}
        holders = told_holders((WIDE, {}, ((3, 5),), 1), "acre", RULE)
        self.assertEqual(odds(case, "acre", RULE, shares), told_odds(shares, holders))

    def test_unlikely(self):
        case = Case(SMALL, {}, (), 1)
        with self.assertRaises(Unlikely):
            odds(case, "acre", RULE, {0: (1, 1), 1: (1, 1)})
        with self.assertRaises(NoPlot):
            odds(case, "moor", RULE, {0: (1, 1), 1: (1, 1)})
        with self.assertRaises(Unlikely):
            odds(Case(SMALL, {}, (), 0), "acre", RULE, {0: (1, 1), 1: (0, 1)})

    def test_made_cases(self):
        source = random.Random(4)
        unlikely = 0
        for arguments, plot, rule in asked(60) + lively(60, 6):
            case, holders = Case(*arguments), told_holders(arguments, plot, rule)
            shares = made_shares(source, [doubt[0] for doubt in told_doubts(*arguments[:3])])
            before = copy.deepcopy(shares)
            expected = told_odds(shares, holders)
            if expected is None:
                unlikely += 1
                with self.assertRaises(Unlikely):
                    odds(case, plot, rule, shares)
            else:
                found = odds(case, plot, rule, shares)
                self.assertEqual(list(found.items()), list(expected.items()))
                self.assertEqual(list(found), list(holders_many(case, plot, rule)))
            self.assertEqual(list(shares.items()), list(before.items()))
        self.assertGreater(unlikely, 3)

    def test_shares_by_turns(self):
        case = Case(SMALL, {}, (), 1)
        shares = [{0: (1, 4), 1: (1, 2)}, {0: (1, 2), 1: (1, 4)}, {1: (1, 9), 0: (0, 1)}]
        found = [odds(case, "acre", RULE, one) for one in shares]
        self.assertEqual(found[::-1], [odds(case, "acre", RULE, one) for one in shares[::-1]])
        self.assertEqual(found, [odds(Case(SMALL, {}, (), 1), "acre", RULE, one) for one in shares])
        self.assertEqual(numbers(case, "acre", RULE), {("bea", 0): 1, ("bea", 1): 1, ("xan", 1): 1})


class Forty(unittest.TestCase):
    def test_halves_count_truths(self):
        shares = {head: (1, 2) for head in range(40)}
        for seed, most in ((0, None), (1, 13), (2, 40)):
            case = Case(long_roll(seed), {}, (), most)
            for rule in RULES[seed::4]:
                many = holders_many(case, "acre", rule)
                expected = {name: as_tuple(Fraction(many[name], case.count())) for name in many}
                self.assertEqual(list(odds(case, "acre", rule, shares).items()), list(expected.items()))

    def test_two_void_papers_at_most(self):
        source = random.Random(9)
        arguments = (long_roll(4, ("sale", "sale", "loan")), {3: "void"}, ((5, 6), (20, 31)), 2)
        shares = made_shares(source, [doubt[0] for doubt in told_doubts(*arguments[:3])])
        shares = {head: share if share[0] < share[1] else (1, 7) for head, share in shares.items()}
        case = Case(*arguments)
        for rule in (("both", "next"), ("entered", "once")):
            holders = {
                truth: told_states(arguments[0], "acre", rule, truth)[-1][0] for truth in case.truths()
            }
            self.assertEqual(odds(case, "acre", rule, shares), told_odds(shares, holders))

    def test_what_is_sure_to_be_void_is_as_if_it_were_found(self):
        source = random.Random(10)
        case = Case(long_roll(5), {}, (), 30)
        sure = {head: source.choice([(0, 1), (1, 1)]) for head in range(0, 40, 2)}
        other = {head: (source.randint(1, 4), 5) for head in range(1, 40, 2)}
        found = case
        for head, share in sure.items():
            found = found.found(head, "void" if share == (1, 1) else "sound")
        for rule in RULES[::5]:
            expected = odds(found, "acre", rule, other)
            all_odds = odds(case, "acre", rule, {**sure, **other})
            self.assertEqual({name: share for name, share in all_odds.items() if share != (0, 1)}, expected)
        self.assertEqual(chance(case, {**sure, **other}), chance(found, other))


if __name__ == "__main__":
    unittest.main()
