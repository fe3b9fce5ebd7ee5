"""[93], with [41] and [66]; [3] and [4] as far as they speak of them."""

import copy
import itertools
import random
import unittest

from samples import BARE, RULE, RULES, SMALL, all_lots, lively, made_cases, told_doubts, told_holders, told_lot
from soundtitle.cases import Case
from soundtitle.errors import Bound, NoPlot, Unlike
from soundtitle.notes import agree, least_telling, put_together
from soundtitle.rolls import plots

CASE = Case(SMALL, {}, (), None)
BOUND = Case(SMALL, {}, (), 1)


def parts(lot):
    return [part for size in range(len(lot) + 1) for part in itertools.combinations(lot, size)]


def told_notes(source, lots, many):
    """Some lots with which some truth agrees."""
    return [source.choice(lots) for _ in range(many)]


class Small(unittest.TestCase):
    def test_lots_that_agree(self):
        one, other = ((0, "sound"),), ((0, "sound"), (1, "void"))
        self.assertIs(agree(CASE, one, other), True)
        self.assertEqual([put_together(CASE, one, other), put_together(CASE, other, one)], [other, other])
        self.assertEqual(put_together(CASE, ((1, "void"),), ((0, "sound"),)), other)
        self.assertIs(agree(CASE, (), ()), True)
        self.assertEqual([put_together(CASE, (), ()), put_together(CASE, (), one)], [(), one])

    def test_lots_that_tell_doubts_unlike(self):
        one, other = ((0, "sound"), (1, "void")), ((0, "void"), (1, "sound"))
        for first, second in ((one, other), (other, one)):
            self.assertIs(agree(CASE, first, second), False)
            with self.assertRaises(Unlike) as caught:
                put_together(CASE, first, second)
            self.assertEqual(caught.exception.head, 0)
        with self.assertRaises(Unlike) as caught:
            put_together(CASE, one, ((0, "sound"), (1, "sound")))
        self.assertEqual(caught.exception.head, 1)

    def test_the_bound(self):
        one, other = ((0, "void"),), ((1, "void"),)
        self.assertIs(agree(CASE, one, other), True)
        self.assertIs(agree(BOUND, one, other), False)
        with self.assertRaises(Bound):
            put_together(BOUND, one, other)
        # One void doubt in both is one.
        self.assertIs(agree(BOUND, one, one), True)
        self.assertEqual(put_together(BOUND, one, ((0, "void"), (1, "sound"))), ((0, "void"), (1, "sound")))
        # Unlike words are told ahead of the bound.
        with self.assertRaises(Unlike) as caught:
            put_together(BOUND, ((0, "void"), (1, "sound")), ((1, "void"),))
        self.assertEqual(caught.exception.head, 1)
        # What is known to be void is no void doubt.
        known = Case((SMALL[0], SMALL[1] + SMALL[1]), {0: "void"}, (), 1)
        self.assertIs(agree(known, ((1, "void"),), ((2, "sound"),)), True)

    def test_what_has_to_be_told(self):
        whole = ((0, "void"), (1, "sound"))
        self.assertEqual(least_telling(CASE, "acre", RULE, "bea", (), whole), [((1, "sound"),)])
        self.assertEqual(least_telling(CASE, "acre", RULE, "bea", ((1, "sound"),), whole), [()])
        self.assertEqual(least_telling(CASE, "acre", RULE, "xan", ((1, "void"),), ((0, "sound"),)), [((0, "sound"),)])
        self.assertEqual(least_telling(CASE, "acre", RULE, "xan", (), ((0, "sound"),)), [])
        self.assertEqual(least_telling(CASE, "acre", RULE, "fay", (), whole), [])
        self.assertEqual(least_telling(CASE, "acre", RULE, "nobody", (), ()), [])
        # By the bound the one word tells the other.
        self.assertEqual(least_telling(BOUND, "acre", RULE, "bea", (), ((0, "void"),)), [((0, "void"),)])

    def test_several_least_parts(self):
        roll = (SMALL[0], (("sale", "fay", "ann", ("acre",), 1, 1), ("sale", "ann", "fay", ("acre",), 2, 2)))
        case = Case(roll, {}, (), None)
        whole = ((0, "void"), (1, "sound"))
        self.assertEqual(least_telling(case, "acre", ("drawn", "never"), "fay", (), whole), [
            ((0, "void"),), ((1, "sound"),),
        ])

    def test_no_papers(self):
        case = Case(BARE, {}, (), 0)
        self.assertIs(agree(case, (), ()), True)
        self.assertEqual([put_together(case, (), ()), least_telling(case, "acre", RULE, "fay", (), ())], [(), [()]])
        self.assertEqual(least_telling(case, "acre", RULE, "zoe", (), ()), [])

    def test_what_is_returned_may_be_changed(self):
        for _ in range(2):
            found = least_telling(CASE, "acre", RULE, "bea", (), ((1, "sound"),))
            self.assertEqual(found, [((1, "sound"),)])
            found.clear()

    def test_any_other_plot_is_refused(self):
        for thing in ("moor", None, True, [], 0):
            with self.assertRaises(NoPlot) as caught:
                least_telling(CASE, thing, RULE, "bea", (), ())
            self.assertIs(caught.exception.plot, thing)


class AllTruths(unittest.TestCase):
    def assert_notes(self, arguments, plot, rule, source, many):
        case, holders = Case(*arguments), told_holders(arguments, plot, rule)
        heads = [doubt[0] for doubt in told_doubts(*arguments[:3])]
        words = {truth: told_lot(arguments, truth) for truth in holders}
        lots = [lot for lot in all_lots(heads) if any(set(lot) <= some for some in words.values())]
        for one, other in zip(told_notes(source, lots, many), told_notes(source, lots, many)):
            before = copy.deepcopy((one, other))
            unlike = [head for head, word in one if (head, {"sound": "void", "void": "sound"}[word]) in other]
            both = set(one) | set(other)
            fits = any(both <= some for some in words.values())
            self.assertIs(agree(case, one, other), fits)
            if unlike:
                with self.assertRaises(Unlike) as caught:
                    put_together(case, one, other)
                self.assertEqual(caught.exception.head, unlike[0])
            elif not fits:
                with self.assertRaises(Bound):
                    put_together(case, one, other)
            else:
                self.assertEqual(put_together(case, one, other), tuple(sorted(both)))
                for name in ("ann", "bob", "zoe"):
                    fine = [
                        part for part in parts(other)
                        if all(holders[truth] == name for truth in holders if set(one) | set(part) <= words[truth])
                    ]
                    least = [part for part in fine if not any(set(less) < set(part) for less in fine)]
                    self.assertEqual(least_telling(case, plot, rule, name, one, other), sorted(least))
            self.assertEqual((one, other), before)

    def test_made_cases(self):
        source = random.Random(12)
        for at, arguments in enumerate(made_cases(60)):
            if len(told_doubts(*arguments[:3])) <= 6:
                for plot in plots(arguments[0]):
                    self.assert_notes(arguments, plot, RULES[at % 12], source, 12)

    def test_papers_that_hang_together(self):
        source = random.Random(13)
        for arguments, plot, rule in lively(60, 6, 81):
            self.assert_notes(arguments, plot, rule, source, 16)

    def test_ten_doubts(self):
        for arguments, plot, rule in lively(6, 10, 82):
            case = Case(arguments[0], {}, (), None)
            truth = case.truths()[-7]
            whole = tuple((number, "void" if number in truth else "sound") for number in range(10))
            holder = told_holders((arguments[0], {}, (), None), plot, rule)[truth]
            found = least_telling(case, plot, rule, holder, (), whole)
            self.assertTrue(found)
            for part in found:
                self.assertEqual(least_telling(case, plot, rule, holder, (), part), [part])
                self.assertEqual(least_telling(case, plot, rule, holder, part, whole), [()])


if __name__ == "__main__":
    unittest.main()
