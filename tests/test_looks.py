"""[70]; [3] and [4] as far as they speak of it."""

import random
import unittest
from fractions import Fraction

from samples import BARE, RULE, SMALL, asked, lively, long_roll, made_shares, told_doubts, told_holders, told_weight
from soundtitle.cases import Case
from soundtitle.errors import NoPlot, Unlikely
from soundtitle.looks import best_expected, best_looks, is_settled, looks_expected, looks_needed

CASE = Case(SMALL, {}, (), None)


def told_ways(holders, heads):
    """All ways of looking: the lists of the tuples (truth, looks) for all truths, and the head with which each begins.

    holders is the dict from the truths that have the words found to who holds, heads those not found.
    """
    found = []
    if len(set(holders.values())) == 1:
        found.append((None, [(truth, 0) for truth in holders]))
    for head in heads:
        left = [other for other in heads if other != head]
        sides = [{truth: holders[truth] for truth in holders if (head in truth) == void} for void in (False, True)]
        ways = [told_ways(side, left) if side else [(None, [])] for side in sides]
        for _, one in ways[0]:
            for _, other in ways[1]:
                found.append((head, [(truth, looks + 1) for truth, looks in one + other]))
    return found


def told_needed(holders, heads):
    """The least number of looks, and the heads with which so few may begin."""
    if len(set(holders.values())) == 1:
        return 0, []
    many = {}
    for head in heads:
        left = [other for other in heads if other != head]
        sides = [{truth: holders[truth] for truth in holders if (head in truth) == void} for void in (False, True)]
        many[head] = 1 + max(told_needed(side, left)[0] for side in sides if side)
    least = min(many.values())
    return least, [head for head in heads if many[head] == least]


def told_expected(holders, heads, shares):
    """The least sum of looks by truths, each as likely as shares tell, and the heads with which it may begin."""
    if len(set(holders.values())) == 1:
        return 0, []
    weight = sum(told_weight(shares, truth) for truth in holders)
    sums = {}
    for head in heads:
        left = [other for other in heads if other != head]
        sides = [{truth: holders[truth] for truth in holders if (head in truth) == void} for void in (False, True)]
        sums[head] = weight + sum(told_expected(side, left, shares)[0] for side in sides if side)
    least = min(sums.values())
    return least, [head for head in heads if sums[head] == least]


class Small(unittest.TestCase):
    def test_the_example_of_the_document(self):
        self.assertEqual([looks_needed(CASE, "acre", RULE), best_looks(CASE, "acre", RULE)], [2, [0, 1]])
        self.assertEqual(looks_expected(CASE, "acre", RULE, {0: (1, 4), 1: (1, 2)}), (3, 2))

    def test_the_roll_of_the_document(self):
        self.assertEqual(best_expected(CASE, "acre", RULE, {0: (1, 4), 1: (1, 2)}), [1])
        self.assertIs(is_settled(CASE, "acre", RULE), False)
        # With one void paper at most it is told by the later one alone.
        case = Case(SMALL, {}, (), 1)
        self.assertEqual([looks_needed(case, "acre", RULE), best_looks(case, "acre", RULE)], [1, [1]])
        self.assertEqual(looks_expected(case, "acre", RULE, {0: (1, 4), 1: (1, 2)}), (1, 1))

    def test_settled(self):
        for case in (CASE.found(1, "sound"), Case(SMALL, {}, (), 0), Case(SMALL, {0: "void", 1: "void"}, (), None)):
            shares = {doubt[0]: (1, 2) for doubt in case.doubts()}
            self.assertIs(is_settled(case, "acre", RULE), True)
            self.assertEqual([looks_needed(case, "acre", RULE), best_looks(case, "acre", RULE)], [0, []])
            self.assertEqual(looks_expected(case, "acre", RULE, shares), (0, 1))
            self.assertEqual(best_expected(case, "acre", RULE, shares), [])

    def test_no_papers(self):
        case = Case(BARE, {}, (), None)
        self.assertIs(is_settled(case, "acre", RULE), True)
        self.assertEqual([looks_needed(case, "acre", RULE), best_looks(case, "acre", RULE)], [0, []])
        self.assertEqual([looks_expected(case, "acre", RULE, {}), best_expected(case, "acre", RULE, {})], [(0, 1), []])

    def test_it_is_settled_for_truths_that_are_not_likely_too(self):
        # The later sale is surely sound, but that is not known: it has to be looked at.
        shares = {0: (1, 4), 1: (0, 1)}
        self.assertEqual(looks_expected(CASE, "acre", RULE, shares), (1, 1))
        self.assertEqual(best_expected(CASE, "acre", RULE, shares), [1])
        shares = {0: (0, 1), 1: (1, 1)}
        self.assertEqual(looks_expected(CASE, "acre", RULE, shares), (2, 1))
        self.assertEqual(best_expected(CASE, "acre", RULE, shares), [0, 1])

    def test_unlikely(self):
        shares = {0: (1, 1), 1: (1, 1)}
        for most in (0, 1):
            # It is raised where it is settled, too.
            for call in (looks_expected, best_expected):
                with self.assertRaises(Unlikely):
                    call(Case(SMALL, {}, (), most), "acre", RULE, shares)
                with self.assertRaises(NoPlot):
                    call(Case(SMALL, {}, (), most), "moor", RULE, shares)
        self.assertEqual(looks_expected(CASE, "acre", RULE, shares), (2, 1))

    def test_all_ways_of_looking(self):
        source = random.Random(12)
        for arguments, plot, rule in lively(120, 3) + asked(30, 2):
            case, holders = Case(*arguments), told_holders(arguments, plot, rule)
            heads = [doubt[0] for doubt in told_doubts(*arguments[:3])]
            shares = made_shares(source, heads)
            ways = told_ways(holders, heads)
            many = min(max(looks for _, looks in way) for _, way in ways)
            begin = sorted({head for head, way in ways if max(looks for _, looks in way) == many})
            self.assertEqual(looks_needed(case, plot, rule), many)
            self.assertEqual(best_looks(case, plot, rule), begin if many else [])
            self.assertIs(is_settled(case, plot, rule), many == 0)
            whole = sum(told_weight(shares, truth) for truth in holders)
            if whole:
                sums = [sum(looks * told_weight(shares, truth) for truth, looks in way) / whole for _, way in ways]
                self.assertEqual(Fraction(*looks_expected(case, plot, rule, shares)), min(sums))
                begin = sorted({head for (head, _), one in zip(ways, sums) if one == min(sums)} if many else [])
                self.assertEqual(best_expected(case, plot, rule, shares), begin)

    def test_papers_that_hang_together(self):
        source = random.Random(13)
        depths = []
        for arguments, plot, rule in lively(60, 5, 4) + lively(6, 6, 5):
            case, holders = Case(*arguments), told_holders(arguments, plot, rule)
            heads = [doubt[0] for doubt in told_doubts(*arguments[:3])]
            shares = made_shares(source, heads)
            many, begin = told_needed(holders, heads)
            depths.append(many)
            self.assertEqual(looks_needed(case, plot, rule), many)
            self.assertEqual(best_looks(case, plot, rule), begin)
            whole = sum(told_weight(shares, truth) for truth in holders)
            if whole:
                least, begin = told_expected(holders, heads, shares)
                share = Fraction(least) / whole
                self.assertEqual(looks_expected(case, plot, rule, shares), (share.numerator, share.denominator))
                self.assertEqual(best_expected(case, plot, rule, shares), begin)
            else:
                with self.assertRaises(Unlikely):
                    looks_expected(case, plot, rule, shares)
                with self.assertRaises(Unlikely):
                    best_expected(case, plot, rule, shares)
        self.assertGreater(max(depths), 2)

    def test_shares_by_turns(self):
        shares = [{0: (1, 4), 1: (1, 2)}, {0: (3, 4), 1: (8, 9)}, {0: (1, 4), 1: (0, 1)}]
        found = [looks_expected(CASE, "acre", RULE, one) for one in shares]
        self.assertEqual(found[::-1], [looks_expected(CASE, "acre", RULE, one) for one in shares[::-1]])
        self.assertEqual(found, [looks_expected(Case(SMALL, {}, (), None), "acre", RULE, one) for one in shares])

    def test_forty_doubts_that_are_settled(self):
        self.assertIs(is_settled(Case(long_roll(3), {}, (), 0), "acre", RULE), True)
        self.assertIs(is_settled(Case(long_roll(3), {}, (), None), "acre", RULE), False)


if __name__ == "__main__":
    unittest.main()
