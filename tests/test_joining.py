"""[77]; [3] and [4] as far as they speak of it."""

import itertools
import unittest

from samples import BARE, RULE, RULES, SMALL, WIDE, asked, lively, told_standing, told_states, told_truths
from soundtitle.cases import Case
from soundtitle.forms import is_roll
from soundtitle.joining import clears, joined, least_clearing
from soundtitle.loans import standing
from soundtitle.rolls import names

CASE = Case(SMALL, {}, (), None)
FIRST = (("acre", "fay"),)
LOAN = ("loan", "fay", "len", "acre", 5, 3, 4)


def told_joined(roll, plot, some, buyer):
    """The roll in which some names join, by the words of [77] once more."""
    days = [day for paper in roll[1] for day in (paper[3:] if paper[0] == "release" else paper[-2:]) if day is not None]
    day = max(days) + 1 if days else 0
    papers = list(roll[1])
    for name in sorted(set(some)):
        for number, paper in enumerate(roll[1]):
            if paper[0] == "loan" and paper[3] == plot and paper[2] == name:
                papers.append(("release", name, number, day))
        papers.append(("sale", name, buyer, (plot,), day, day))
    return (roll[0], tuple(papers))


def told_clears(arguments, plot, rule, some):
    roll = told_joined(arguments[0], plot, some, "yyy")
    return all(
        told_states(roll, plot, rule, truth)[-1][0] == "yyy" and not told_standing(roll, plot, rule, truth)[-1]
        for truth in told_truths(*arguments)
    )


class Joined(unittest.TestCase):
    def test_a_sale_of_each(self):
        self.assertEqual(joined(SMALL, "acre", ["xan", "fay", "xan"], "zoe"), (SMALL[0], SMALL[1] + (
            ("sale", "fay", "zoe", ("acre",), 7, 7), ("sale", "xan", "zoe", ("acre",), 7, 7),
        )))

    def test_releases_ahead_of_the_sale(self):
        papers = (LOAN, ("loan", "bea", "len", "acre", 5, 1, None), ("loan", "fay", "moe", "acre", 5, 1, 1))
        roll = (FIRST, papers)
        self.assertEqual(joined(roll, "acre", ["moe", "len"], "zoe"), (FIRST, papers + (
            ("release", "len", 0, 5), ("release", "len", 1, 5), ("sale", "len", "zoe", ("acre",), 5, 5),
            ("release", "moe", 2, 5), ("sale", "moe", "zoe", ("acre",), 5, 5),
        )))

    def test_the_first_day_behind_all_days_of_the_roll(self):
        # The last day of WIDE is that of a release; of loans of other plots nothing is released.
        found = joined(WIDE, "moor", ["moe", "len"], "bob")
        self.assertEqual(found[1][8:], (
            ("sale", "len", "bob", ("moor",), 12, 12),
            ("release", "moe", 4, 12), ("sale", "moe", "bob", ("moor",), 12, 12),
        ))
        self.assertEqual(joined((FIRST, (LOAN[:-1] + (None,),)), "acre", ["fay"], "zoe")[1][1][4:], (4, 4))

    def test_nobody_and_no_papers(self):
        self.assertEqual(joined(SMALL, "acre", [], "zoe"), SMALL)
        self.assertEqual(joined(BARE, "acre", [], "zoe"), BARE)
        self.assertEqual(joined(BARE, "acre", ["fay"], "zoe"), (FIRST, (("sale", "fay", "zoe", ("acre",), 0, 0),)))

    def test_names_that_stand_nowhere(self):
        found = joined(SMALL, "acre", ["gil"], "zoe")
        self.assertEqual(found[1][2:], (("sale", "gil", "zoe", ("acre",), 7, 7),))
        # Nobody sells to himself: what is returned is a roll still.
        self.assertEqual(joined(SMALL, "acre", ["zoe"], "zoe"), SMALL)

    def test_made_rolls(self):
        for arguments, plot, _ in lively(60, 8, 11) + asked(20):
            for some in (["bob"], ["dan", "ann", "dan"], ["ann", "bob", "cid", "dan"], []):
                before = list(some)
                found = joined(arguments[0], plot, some, "zoe")
                self.assertEqual(found, told_joined(arguments[0], plot, some, "zoe"))
                self.assertIs(is_roll(found), True)
                self.assertEqual(some, before)


class Clears(unittest.TestCase):
    def test_the_roll_of_the_document(self):
        self.assertIs(clears(CASE, "acre", RULE, ["bea"]), True)
        self.assertIs(clears(CASE, "acre", ("drawn", "never"), ["bea"]), False)
        self.assertIs(clears(CASE, "acre", ("drawn", "never"), ["fay", "bea", "xan", "zoe", "bea"]), True)
        self.assertEqual(least_clearing(CASE, "acre", RULE), [("bea",)])
        self.assertEqual(least_clearing(CASE, "acre", ("drawn", "never")), [("bea", "fay", "xan")])

    def test_loans(self):
        # The lender has to join as long as the loan may stand.
        for known, expected in (({}, [("fay", "len")]), ({0: "void"}, [("fay",)]), ({0: "sound"}, [("fay", "len")])):
            case = Case((FIRST, (LOAN,)), known, (), None)
            self.assertEqual(least_clearing(case, "acre", ("drawn", "never")), expected)
            self.assertIs(clears(case, "acre", ("drawn", "never"), ["fay"]), expected == [("fay",)])
        case = Case((FIRST, (LOAN, ("release", "len", 0, 6))), {1: "sound"}, (), None)
        self.assertEqual(least_clearing(case, "acre", ("drawn", "never")), [("fay",)])

    def test_a_loan_that_is_never_entered_is_lost_by_an_override(self):
        # By "entered" the sale of who is the base overrides: the loan of the elder holder falls.
        papers = (("sale", "fay", "bea", ("acre",), 1, None), ("loan", "bea", "len", "acre", 5, 2, None))
        case = Case((FIRST, papers), {}, (), 0)
        self.assertEqual(least_clearing(case, "acre", ("entered", "never")), [("bea", "len"), ("fay",)])
        self.assertEqual(least_clearing(case, "acre", ("drawn", "never")), [("bea", "len")])
        # Whoever joins besides, ahead of the override, may keep it from happening.
        self.assertIs(clears(case, "acre", ("entered", "never"), ["bea", "fay"]), False)

    def test_nobody(self):
        for case in (CASE, Case(BARE, {}, (), None)):
            self.assertIs(clears(case, "acre", RULE, []), False)
            self.assertIs(clears(case, "acre", RULE, ["nobody"]), False)
        self.assertEqual(least_clearing(Case(BARE, {}, (), None), "acre", RULE), [("fay",)])
        self.assertIs(clears(Case(BARE, {}, (), 0), "acre", RULE, ["nobody", "fay", "fay"]), True)

    def test_made_cases(self):
        several = 0
        for arguments, plot, rule in lively(60, 6, 12) + asked(8, 5):
            case = Case(*arguments)
            people = names(arguments[0])
            fine = []
            for size in range(len(people) + 1):
                for some in itertools.combinations(people, size):
                    expected = told_clears(arguments, plot, rule, some)
                    if expected:
                        fine.append(some)
                    self.assertIs(clears(case, plot, rule, list(some)), expected)
                    self.assertIs(clears(case, plot, rule, [*some[::-1], "zoe", *some]), expected)
            least = [some for some in fine if not any(set(other) < set(some) for other in fine)]
            several += len(least) > 1
            self.assertEqual(least_clearing(case, plot, rule), sorted(least))
        self.assertGreater(several, 3)

    def test_the_buyer_may_be_anybody(self):
        for arguments, plot, rule in lively(20, 6, 13):
            for some in (["ann"], ["ann", "bob", "cid", "dan"]):
                found = set()
                for buyer in ("aaa", "buy", "zzz"):
                    roll = joined(arguments[0], plot, some, buyer)
                    found.add(all(
                        told_states(roll, plot, rule, truth)[-1][0] == buyer
                        and standing(roll, plot, rule, truth)[-1] == ()
                        for truth in told_truths(*arguments)
                    ))
                self.assertEqual(found, {clears(Case(*arguments), plot, rule, some)})

    def test_all_rules_by_turns(self):
        found = [least_clearing(CASE, "acre", rule) for rule in RULES]
        self.assertEqual(found[::-1], [least_clearing(CASE, "acre", rule) for rule in RULES[::-1]])
        self.assertEqual(found, [least_clearing(Case(SMALL, {}, (), None), "acre", rule) for rule in RULES])


if __name__ == "__main__":
    unittest.main()
