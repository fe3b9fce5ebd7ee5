"""[67], with [22]; [3] and [4] as far as they speak of it."""

import itertools
import random
import unittest

from samples import (
    BARE, RULE, SMALL, WIDE, asked, lively, lively_roll, odd_values, told_doubts, told_holders, told_states,
)
from soundtitle.cases import Case
from soundtitle.errors import Needed, NoHead, NoPlot
from soundtitle.matters import idle, matters, turned_by, turns
from soundtitle.rolls import papers_for, without_paper

CASE = Case(SMALL, {}, (), None)


def told_pairs(holders, doubt):
    """Who holds in the pairs of truths that are alike but for a doubt, and unlike in this: first where it is sound."""
    found = []
    for one, other in itertools.permutations(holders, 2):
        if set(one) < set(other) and set(other) - set(one) == set(doubt) and holders[one] != holders[other]:
            found.append((holders[one], holders[other]))
    return found


def told_idle(roll, plot, rule, holders):
    found = []
    for number in papers_for(roll, plot):
        try:
            shorter = without_paper(roll, number)
        except Needed:
            continue
        led = {truth: tuple(n - (n > number) for n in truth if n != number) for truth in holders}
        if all(told_states(shorter, plot, rule, led[truth])[-1][0] == holders[truth] for truth in holders):
            found.append(number)
    return found


class Small(unittest.TestCase):
    def test_the_example_of_the_document(self):
        self.assertEqual(matters(CASE, "acre", RULE), [0, 1])
        self.assertEqual(turns(CASE, "acre", RULE, 0), [("xan", "fay")])

    def test_the_roll_of_the_document(self):
        self.assertEqual([turned_by(CASE, "acre", RULE, head) for head in (0, 1)], [1, 2])
        self.assertEqual(turns(CASE, "acre", RULE, 1), [("bea", "fay"), ("bea", "xan")])
        self.assertEqual(idle(CASE, "acre", RULE), [])
        case = Case(SMALL, {}, (), 0)
        self.assertEqual([matters(case, "acre", RULE), turned_by(case, "acre", RULE, 0)], [[], 0])
        self.assertEqual(turns(case, "acre", RULE, 1), [])
        # Both words are void, or none: the pair of the group.
        case = Case(SMALL, {}, ((0, 1),), None)
        self.assertEqual([matters(case, "acre", RULE), turns(case, "acre", RULE, 0)], [[0], [("bea", "fay")]])

    def test_the_bound_lets_some_pairs_alone(self):
        case = Case(SMALL, {}, (), 1)
        self.assertEqual([turned_by(case, "acre", RULE, head) for head in (0, 1)], [0, 1])
        self.assertEqual(matters(case, "acre", RULE), [1])

    def test_idle_papers(self):
        # What is known to be void, and never entered; what is sold by somebody who has nothing; a loan.
        papers = (
            ("sale", "fay", "gil", ("acre",), 1, None), ("sale", "zoe", "bea", ("acre",), 2, 2),
            ("loan", "fay", "len", "acre", 5, 3, 3), ("sale", "fay", "bea", ("acre",), 4, 4),
            ("release", "len", 2, 5), ("sale", "fay", "bea", ("moor",), 6, 6),
        )
        roll = ((("acre", "fay"), ("moor", "fay")), papers)
        case = Case(roll, {0: "void"}, (), None)
        self.assertEqual(idle(case, "acre", RULE), [0, 1, 4])
        self.assertEqual(idle(Case(roll, {}, (), None), "acre", RULE), [1, 4])
        # No release is of the loan.
        self.assertEqual(idle(Case((roll[0], papers[:4]), {0: "void"}, (), None), "acre", RULE), [0, 1, 2])
        self.assertEqual(idle(case, "moor", RULE), [])

    def test_a_paper_that_is_void_may_not_be_idle(self):
        # By "once" a void sale overrides when it is entered.
        case = Case((SMALL[0], SMALL[1][:1]), {0: "void"}, (), None)
        found = [idle(case, "acre", ("entered", forged)) for forged in ("never", "next", "once")]
        self.assertEqual(found, [[0], [0], []])

    def test_no_papers(self):
        case = Case(BARE, {}, (), None)
        self.assertEqual([matters(case, "acre", RULE), idle(case, "acre", RULE)], [[], []])

    def assert_matters(self, arguments, plot, rule):
        case, holders = Case(*arguments), told_holders(arguments, plot, rule)
        heads = []
        for doubt in told_doubts(*arguments[:3]):
            pairs = told_pairs(holders, doubt)
            self.assertEqual(turned_by(case, plot, rule, doubt[0]), len(pairs))
            self.assertEqual(turns(case, plot, rule, doubt[0]), sorted(set(pairs)))
            if pairs:
                heads.append(doubt[0])
        self.assertEqual(matters(case, plot, rule), heads)
        self.assertEqual(idle(case, plot, rule), told_idle(arguments[0], plot, rule, holders))

    def test_made_cases(self):
        for arguments, plot, rule in asked(60, 5):
            self.assert_matters(arguments, plot, rule)

    def test_papers_that_hang_together(self):
        for arguments, plot, rule in lively(60, 6):
            self.assert_matters(arguments, plot, rule)

    def test_ten_doubts(self):
        arguments = (lively_roll(random.Random(3), 10), {}, (), None)
        case = Case(*arguments)
        holders = told_holders(arguments, "acre", ("both", "once"))
        for head in (0, 4, 9):
            pairs = [
                (holders[truth], holders[tuple(sorted(truth + (head,)))]) for truth in holders if head not in truth
            ]
            pairs = [pair for pair in pairs if pair[0] != pair[1]]
            self.assertEqual(turned_by(case, "acre", ("both", "once"), head), len(pairs))
            self.assertEqual(turns(case, "acre", ("both", "once"), head), sorted(set(pairs)))


class Refused(unittest.TestCase):
    def test_what_is_no_head(self):
        case = Case(WIDE, {1: "void"}, ((3, 5), (0, 2, 7)), None)
        for thing in odd_values() + [2, 5, 7, 8]:
            if isinstance(thing, bool) or not isinstance(thing, int) or thing not in (0, 3, 4, 6):
                for call in (turned_by, turns):
                    with self.assertRaises(NoHead) as caught:
                        call(case, "moor", RULE, thing)
                    self.assertIs(caught.exception.head, thing)
                    with self.assertRaises(NoPlot):
                        call(case, "glen", RULE, thing)

    def test_a_known_paper_has_no_head(self):
        with self.assertRaises(NoHead):
            turns(Case(SMALL, {0: "void"}, (), None), "acre", RULE, 0)


if __name__ == "__main__":
    unittest.main()
