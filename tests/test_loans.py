"""[75], with [7]; [3] and [4] as far as they speak of it."""

import copy
import itertools
import random
import unittest
from collections import Counter

from samples import (
    BARE, RULE, RULES, WIDE, asked, lively, lively_roll, odd_values, told_standing, told_states, told_truths,
)
from soundtitle.cases import Case
from soundtitle.errors import NoPlot, NoTruth
from soundtitle.loans import always, ends, ends_many, ever, ranks, standing

FIRST = (("acre", "fay"),)


def loan(owner, lender, drawn, entered, amount=5):
    return ("loan", owner, lender, "acre", amount, drawn, entered)


def sale(seller, buyer, drawn, entered):
    return ("sale", seller, buyer, ("acre",), drawn, entered)


def end_of(papers, rule=RULE, truth=()):
    return standing((FIRST, tuple(papers)), "acre", rule, truth)[-1]


class Standing(unittest.TestCase):
    def test_from_the_drawing_on(self):
        roll = (FIRST, (sale("fay", "bea", 3, 3), loan("fay", "len", 1, 9)))
        self.assertEqual(standing(roll, "acre", RULE, ()), [(), (1,), (1,), (1,), (1,)])
        self.assertEqual(standing(roll, "acre", RULE, (1,)), [()] * 5)
        self.assertEqual(standing(roll, "acre", RULE, (0,)), [(), (1,), (1,), (1,), (1,)])

    def test_only_of_the_holder(self):
        self.assertEqual(end_of([loan("bea", "len", 1, 1)]), ())
        papers = [sale("fay", "bea", 1, 1), loan("fay", "len", 2, 2), loan("bea", "moe", 2, None)]
        self.assertEqual(end_of(papers), (2,))
        # On one day a loan with a lesser number is drawn ahead of the sale.
        self.assertEqual(end_of([loan("fay", "len", 2, 2), sale("fay", "bea", 2, 2), loan("fay", "len", 2, 2)]), (0,))

    def test_releases(self):
        one = loan("fay", "len", 3, None)
        self.assertEqual(end_of([one, ("release", "len", 0, 4)]), ())
        self.assertEqual(end_of([one, ("release", "len", 0, 3)]), ())
        self.assertEqual(end_of([one, ("release", "len", 0, 4)], RULE, (1,)), (0,))
        # By another name, or drawn ahead of the loan.
        self.assertEqual(end_of([one, ("release", "moe", 0, 4)]), (0,))
        self.assertEqual(end_of([one, ("release", "fay", 0, 4)]), (0,))
        self.assertEqual(end_of([one, ("release", "len", 0, 2)]), (0,))
        self.assertEqual(end_of([one, ("release", "len", 0, 2), ("release", "len", 0, 5)]), ())
        # A release takes its own loan away, and no other one.
        self.assertEqual(end_of([one, one, ("release", "len", 1, 4)]), (0,))

    def test_a_loan_that_is_entered_too_late_is_lost(self):
        # By "entered" the later sale overrides at day 6; the loan is of who held by the elder one.
        papers = [sale("fay", "bea", 1, None), None, sale("fay", "gil", 5, 6)]
        for entered, expected in ((None, ()), (2, (1,)), (5, (1,)), (6, (1,)), (7, ())):
            papers[1] = loan("bea", "len", 2, entered)
            self.assertEqual(end_of(papers, ("entered", "never")), expected, entered)
            # By "drawn" nobody loses.
            self.assertEqual(end_of(papers, ("drawn", "never")), (1,))
        # On the day of the override the one with the greater number is entered behind it.
        papers = [sale("fay", "bea", 1, None), sale("fay", "gil", 5, 6), loan("bea", "len", 2, 6)]
        self.assertEqual(end_of(papers, ("entered", "never")), ())

    def test_the_place_of_the_loss(self):
        roll = (FIRST, (sale("fay", "bea", 1, None), loan("bea", "len", 2, None), sale("fay", "gil", 5, 6)))
        self.assertEqual(standing(roll, "acre", ("entered", "never"), ()), [(), (), (1,), (1,), ()])

    def test_an_override_of_the_holder_himself_takes_nothing_away(self):
        roll = (FIRST, (sale("fay", "bea", 1, None), loan("bea", "len", 2, None), sale("fay", "bea", 5, 6)))
        self.assertEqual(standing(roll, "acre", ("entered", "never"), ()), [(), (), (1,), (1,), (1,)])

    def test_what_is_sold_by_the_holder_is_not_lost(self):
        self.assertEqual(end_of([loan("fay", "len", 1, None), sale("fay", "bea", 2, 2)], ("entered", "never")), (0,))

    def test_loans_of_other_plots_and_their_order(self):
        self.assertEqual(standing(WIDE, "moor", ("drawn", "never"), (5,))[-1], (4,))
        # Its release is drawn on its day, behind it; another one is by another name.
        self.assertEqual(standing(WIDE, "moor", ("drawn", "never"), ())[-1], ())
        self.assertEqual(end_of([loan("fay", "len", 9, 9), loan("fay", "moe", 1, None)]), (0, 1))
        self.assertEqual(standing(BARE, "acre", RULE, ()), [()])

    def test_made_truths(self):
        seen = 0
        for arguments, plot, rule in lively(200, 8, 8) + asked(30):
            truths = told_truths(arguments[0], {}, (), None)
            for truth in truths[:: max(1, len(truths) // 12)]:
                expected = told_standing(arguments[0], plot, rule, truth)
                seen += any(expected)
                self.assertEqual(standing(arguments[0], plot, rule, truth), expected)
        self.assertGreater(seen, 300)

    def test_wrong_values(self):
        roll = (FIRST, (loan("fay", "len", 1, 9), sale("fay", "bea", 3, 3)))
        for thing in odd_values() + ["moor"]:
            if thing != "acre":
                for truth in ((), None):
                    with self.assertRaises(NoPlot) as caught:
                        standing(roll, thing, RULE, truth)
                    self.assertIs(caught.exception.plot, thing)
        for thing in odd_values() + [(2,), (1, 0), [0], (0, 0), (True,), (-1,)]:
            if repr(thing) not in ("()", "(0,)", "(1,)", "(0, 1)"):
                with self.assertRaises(NoTruth) as caught:
                    standing(roll, "acre", RULE, thing)
                self.assertIs(caught.exception.truth, thing)


class Ranks(unittest.TestCase):
    def test_by_the_day_of_drawing(self):
        papers = (loan("a", "b", 5, 5), loan("a", "b", 1, None), loan("a", "b", 5, None), loan("a", "b", 0, 90))
        for forged in ("never", "next", "once"):
            self.assertEqual(ranks((FIRST, papers), ("drawn", forged), [0, 1, 2, 3]), [3, 1, 0, 2])

    def test_by_the_day_on_which_they_are_entered(self):
        papers = (
            loan("a", "b", 5, None), loan("a", "b", 4, 7), loan("a", "b", 3, None), loan("a", "b", 6, 7),
            loan("a", "b", 4, 7), loan("a", "b", 1, 2), loan("a", "b", 0, 0),
        )
        for prior in ("entered", "innocent", "both"):
            for some in itertools.permutations(range(7)):
                self.assertEqual(ranks((FIRST, papers), (prior, "once"), some), [6, 5, 1, 4, 3, 2, 0])

    def test_lists_and_tuples_of_some(self):
        roll = (FIRST, (loan("a", "b", 5, 5), loan("a", "b", 1, None), loan("a", "b", 2, 2)))
        some = [1, 0]
        self.assertEqual(ranks(roll, RULE, some), [0, 1])
        self.assertEqual(some, [1, 0])
        self.assertEqual([ranks(roll, RULE, ()), ranks(roll, RULE, []), ranks(roll, RULE, (2,))], [[], [], [2]])
        self.assertEqual(ranks(roll, ("drawn", "next"), (0, 1, 2)), [1, 2, 0])

    def test_what_is_returned_is_new(self):
        roll = (FIRST, (loan("a", "b", 5, 5),))
        some = [0]
        ranks(roll, RULE, some).append(7)
        self.assertEqual(some, [0])


class Ends(unittest.TestCase):
    def assert_ends(self, arguments, plot, rule):
        case = Case(*arguments)
        found = Counter()
        for truth in told_truths(*arguments):
            name = told_states(arguments[0], plot, rule, truth)[-1][0]
            found[(name, told_standing(arguments[0], plot, rule, truth)[-1])] += 1
        self.assertEqual(ends(case, plot, rule), sorted(found))
        self.assertEqual(list(ends_many(case, plot, rule).items()), sorted(found.items()))
        rows = [set(loans) for _, loans in found]
        self.assertEqual(always(case, plot, rule), sorted(set.intersection(*rows)))
        self.assertEqual(ever(case, plot, rule), sorted(set.union(*rows)))

    def test_a_roll_of_a_sale_and_a_loan(self):
        case = Case((FIRST, (sale("fay", "bea", 1, 1), loan("bea", "len", 2, 2))), {}, (), None)
        self.assertEqual(ends(case, "acre", RULE), [("bea", ()), ("bea", (1,)), ("fay", ())])
        self.assertEqual(
            list(ends_many(case, "acre", RULE).items()), [(("bea", ()), 1), (("bea", (1,)), 1), (("fay", ()), 2)]
        )
        self.assertEqual([always(case, "acre", RULE), ever(case, "acre", RULE)], [[], [1]])
        case = Case(case.roll(), {}, (), 0)
        self.assertEqual([always(case, "acre", RULE), ever(case, "acre", RULE)], [[1], [1]])

    def test_no_papers(self):
        case = Case(BARE, {}, (), None)
        self.assertEqual([ends(case, "acre", RULE), always(case, "acre", RULE)], [[("fay", ())], []])
        self.assertEqual([ends_many(case, "acre", RULE), ever(case, "acre", RULE)], [{("fay", ()): 1}, []])

    def test_made_cases(self):
        for arguments, plot, rule in asked(40):
            self.assert_ends(arguments, plot, rule)

    def test_papers_that_hang_together(self):
        for arguments, plot, rule in lively(150, 8, 9):
            self.assert_ends(arguments, plot, rule)

    def test_ten_doubts(self):
        for seed in range(3):
            self.assert_ends((lively_roll(random.Random(seed), 10), {}, (), None), "acre", RULES[seed * 4])

    def test_two_cases_of_one_roll(self):
        roll = (FIRST, (sale("fay", "bea", 1, 1), loan("bea", "len", 2, 2)))
        one, other = Case(roll, {}, (), None), Case(copy.deepcopy(roll), {1: "void"}, (), None)
        for _ in range(2):
            self.assertEqual(ends(one, "acre", RULE), [("bea", ()), ("bea", (1,)), ("fay", ())])
            self.assertEqual(ends(other, "acre", RULE), [("bea", ()), ("fay", ())])


if __name__ == "__main__":
    unittest.main()
