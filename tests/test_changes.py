"""[83], with [6] and [30]; [3] and [4] as far as they speak of them."""

import itertools
import unittest
from collections import Counter

from samples import (
    BARE, RULE, RULES, SMALL, WIDE, hanging_roll, lively, long_roll, odd_values, small_cases, told_states, told_truths,
)
from soundtitle.cases import Case
from soundtitle.changes import changed, days_safe, holders_changed
from soundtitle.errors import NoPlot, NoTruth
from soundtitle.moments import moments
from soundtitle.numbers import holders_many
from soundtitle.rolls import plots
from soundtitle.walks import states

CASE = Case(SMALL, {}, (), None)
DRAWN = ("drawn", "never")


def told_days(roll, plot):
    days = sorted({day for day, _, _ in moments(roll, plot)})
    return days + [days[-1] + 1 if days else 0]


class Changed(unittest.TestCase):
    def test_the_roll_of_the_document(self):
        start, forged = ("fay", "fay", ()), ("fay", "xan", ())
        self.assertEqual(states(SMALL, "acre", RULE, (0,)), [start, start, forged, forged, ("bea", "bea", ())])
        # By "never" xan is not the base, and sells nothing.
        self.assertEqual(changed(SMALL, "acre", RULE, DRAWN, 5, (0,)), [start, start, forged, start, start])
        self.assertEqual(changed(SMALL, "acre", DRAWN, RULE, 5, (0,)), [
            start, start, start, forged, ("bea", "bea", ()),
        ])
        # On the day on which it is entered, or behind it.
        self.assertEqual(changed(SMALL, "acre", DRAWN, RULE, 6, (0,))[-2:], [start, ("bea", "bea", ())])
        self.assertEqual(changed(SMALL, "acre", DRAWN, RULE, 7, (0,)), states(SMALL, "acre", DRAWN, (0,)))

    def test_ahead_of_all_moments_and_behind_all(self):
        for rule, later in itertools.product(RULES, repeat=2):
            for truth in ((), (0,), (1,), (0, 1)):
                for day in (0, 1):
                    self.assertEqual(
                        changed(SMALL, "acre", rule, later, day, truth), states(SMALL, "acre", later, truth)
                    )
                for day in (7, 8, 10 ** 6):
                    self.assertEqual(
                        changed(SMALL, "acre", rule, later, day, truth), states(SMALL, "acre", rule, truth)
                    )

    def test_no_papers(self):
        for day in (0, 5):
            self.assertEqual(changed(BARE, "acre", RULE, DRAWN, day, ()), [("fay", "fay", ())])

    def test_the_same_rule_makes_the_row_bare(self):
        # Ann sells on what she is to be entered for later; behind the change that number is in no row.
        roll = ((("acre", "fay"),), (
            ("sale", "fay", "ann", ("acre",), 0, 4), ("sale", "fay", "bob", ("acre",), 1, None),
            ("sale", "ann", "cid", ("acre",), 1, None),
        ))
        rule = ("entered", "never")
        self.assertEqual(states(roll, "acre", rule, ())[-1], ("cid", "ann", ()))
        self.assertEqual(changed(roll, "acre", rule, rule, 4, ()), [
            ("fay", "fay", ()), ("ann", "fay", (0,)), ("ann", "fay", (0,)), ("cid", "fay", (0,)), ("ann", "ann", ()),
        ])
        # On the day of several moments all of them are by the later rule.
        self.assertEqual(changed(roll, "acre", rule, rule, 1, ()), [
            ("fay", "fay", ()), ("ann", "fay", (0,)), ("ann", "fay", ()), ("cid", "fay", ()), ("ann", "ann", ()),
        ])

    def test_all_pairs_of_rules(self):
        for at, (arguments, plot, _) in enumerate(lively(30, 6, 31)):
            roll = arguments[0]
            for truth in told_truths(roll, {}, (), None)[at % 5::13]:
                for rule, later in itertools.product(RULES, repeat=2):
                    for day in told_days(roll, plot)[::2]:
                        found = changed(roll, plot, rule, later, day, truth)
                        self.assertEqual(found, told_states(roll, plot, rule, truth, later, day))

    def test_what_is_returned_is_new(self):
        changed(SMALL, "acre", RULE, DRAWN, 5, ()).clear()
        self.assertEqual(len(changed(SMALL, "acre", RULE, DRAWN, 5, ())), 5)

    def test_other_plots_are_refused_ahead_of_other_truths(self):
        for thing in odd_values() + ["moor"]:
            if thing != "acre":
                for truth in ((), (2,), None):
                    with self.assertRaises(NoPlot) as caught:
                        changed(SMALL, thing, RULE, DRAWN, 5, truth)
                    self.assertIs(caught.exception.plot, thing)

    def test_what_is_no_truth_of_the_roll(self):
        for thing in odd_values() + [(2,), (1, 0), (True,), (False,), [0]]:
            if repr(thing) not in ("()", "(0,)"):
                with self.assertRaises(NoTruth) as caught:
                    changed(SMALL, "acre", RULE, DRAWN, 5, thing)
                self.assertIs(caught.exception.truth, thing)


class OfACase(unittest.TestCase):
    def test_the_roll_of_the_document(self):
        self.assertEqual(list(holders_changed(CASE, "acre", DRAWN, RULE, 5).items()), [
            ("bea", 2), ("fay", 1), ("xan", 1),
        ])
        self.assertEqual(list(holders_changed(CASE, "acre", DRAWN, RULE, 7).items()), [
            ("bea", 1), ("fay", 2), ("xan", 1),
        ])
        once = ("both", "once")
        self.assertEqual([holders_changed(CASE, "acre", RULE, once, day) for day in (2, 5)], [{"bea": 4}, {"bea": 4}])
        # Behind day 2 nothing makes xan the holder by the forged sale; but he is the base, and so he sells.
        self.assertEqual(days_safe(CASE, "acre", RULE, once, "bea"), [1, 2, 5, 6])
        self.assertEqual(days_safe(CASE, "acre", RULE, once, "xan"), [])
        self.assertEqual(days_safe(Case(SMALL, {}, (), 0), "acre", RULE, DRAWN, "bea"), [1, 2, 5, 6, 7])

    def test_no_papers(self):
        case = Case(BARE, {}, (), None)
        self.assertEqual(holders_changed(case, "acre", RULE, DRAWN, 0), {"fay": 1})
        self.assertEqual([days_safe(case, "acre", RULE, DRAWN, name) for name in ("fay", "zoe")], [[0], []])

    def test_a_plot_without_papers_in_a_roll_with_some(self):
        roll = ((("acre", "fay"), ("moor", "gil")), SMALL[1])
        case = Case(roll, {}, (), 1)
        self.assertEqual(holders_changed(case, "moor", RULE, DRAWN, 3), {"gil": 3})
        self.assertEqual(days_safe(case, "moor", RULE, DRAWN, "gil"), [0])

    def test_days_of_loans_and_releases_count(self):
        case = Case(WIDE, {1: "void"}, (), None)
        self.assertEqual(days_safe(case, "moor", DRAWN, RULE, "moe"), [])
        roll = ((("acre", "fay"),), (("loan", "fay", "len", "acre", 5, 2, 4), ("release", "len", 0, 6)))
        self.assertEqual(days_safe(Case(roll, {}, (), None), "acre", RULE, DRAWN, "fay"), [2, 4, 6, 7])

    def test_small_cases(self):
        for at, (arguments, told) in enumerate(small_cases(16, 5)):
            case = Case(*arguments)
            for plot in plots(arguments[0]):
                truths = list(told[RULE][plot])
                for step, (rule, later) in enumerate(itertools.product(RULES, repeat=2)):
                    if (step + at) % 3 == 0:
                        self.assert_changed(arguments, case, plot, rule, later, truths)

    def assert_changed(self, arguments, case, plot, rule, later, truths):
        days = told_days(arguments[0], plot)
        ends = {}
        for day in days:
            ends[day] = [told_states(arguments[0], plot, rule, truth, later, day)[-1][0] for truth in truths]
            found = holders_changed(case, plot, rule, later, day)
            self.assertEqual(list(found.items()), sorted(Counter(ends[day]).items()))
        for name in ("ann", "bob", "zoe"):
            safe = [day for day in days if set(ends[day]) == {name}]
            self.assertEqual(days_safe(case, plot, rule, later, name), safe)

    def test_what_is_returned_may_be_changed(self):
        for _ in range(2):
            self.assertEqual(days_safe(CASE, "acre", RULE, ("both", "once"), "bea"), [1, 2, 5, 6])
            days_safe(CASE, "acre", RULE, ("both", "once"), "bea").clear()
            holders_changed(CASE, "acre", RULE, DRAWN, 2).clear()
            self.assertEqual(sum(holders_changed(CASE, "acre", RULE, DRAWN, 2).values()), 4)


class Forty(unittest.TestCase):
    PAIRS = [(("both", "never"), ("entered", "next")), (("entered", "once"), ("innocent", "never")), (DRAWN, RULE)]

    def test_ahead_of_all_and_behind_all(self):
        for roll, most in ((long_roll(1), None), (hanging_roll(1), 7)):
            case = Case(roll, {3: "void"}, ((5, 8), (20, 31, 32)), most)
            last = told_days(roll, "acre")[-1]
            for rule, later in self.PAIRS:
                self.assertEqual(holders_changed(case, "acre", rule, later, 0), holders_many(case, "acre", later))
                self.assertEqual(holders_changed(case, "acre", rule, later, last), holders_many(case, "acre", rule))
                self.assertEqual(sum(holders_changed(case, "acre", rule, later, 20).values()), case.count())

    def test_two_void_papers_at_most(self):
        roll = hanging_roll(2)
        case = Case(roll, {}, (), 2)
        truths = case.truths()[::7]
        for rule, later in self.PAIRS:
            for day in (11, 23):
                possible = holders_changed(case, "acre", rule, later, day)
                ends = Counter(told_states(roll, "acre", rule, truth, later, day)[-1][0] for truth in truths)
                self.assertTrue(all(many <= possible[name] for name, many in ends.items()))
        case = Case(long_roll(2), {}, (), 1)
        for rule, later in self.PAIRS:
            found = Counter(
                told_states(case.roll(), "acre", rule, truth, later, 14)[-1][0] for truth in case.truths()
            )
            self.assertEqual(list(holders_changed(case, "acre", rule, later, 14).items()), sorted(found.items()))

    def test_safe_days_are_those_on_which_nobody_else_may_hold(self):
        for roll, most in ((hanging_roll(5), 3), (long_roll(4, ("sale", "loan", "loan")), None)):
            case = Case(roll, {}, ((1, 4),), most)
            for rule, later in self.PAIRS:
                days = told_days(roll, "acre")
                ends = {day: holders_changed(case, "acre", rule, later, day) for day in days}
                for name in sorted({name for some in ends.values() for name in some}) + ["zoe"]:
                    self.assertEqual(
                        days_safe(case, "acre", rule, later, name), [day for day in days if list(ends[day]) == [name]]
                    )

    def test_days_that_are_safe_whatever_forty_others_are(self):
        # Gil and hal sell to each other what they never have.
        noise = []
        for day in range(20):
            noise += [("sale", *pair, ("acre",), day, day + 4) for pair in (("gil", "hal"), ("hal", "gil"))]
        for most in (None, 5):
            case = Case((SMALL[0], SMALL[1] + tuple(noise)), {0: "void", 1: "sound"}, (), most)
            self.assertEqual(len(case.doubts()), 40)
            self.assertEqual(days_safe(case, "acre", DRAWN, RULE, "bea"), [0, 1, 2, 3, 4, 5, 6])
            self.assertEqual(days_safe(case, "acre", DRAWN, RULE, "fay"), list(range(7, 25)))
            self.assertEqual(days_safe(case, "acre", RULE, DRAWN, "fay"), [0, 1, 2, 3, 4, 5, 6])


if __name__ == "__main__":
    unittest.main()
