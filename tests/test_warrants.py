"""[66], with [10] and [41]; [3] and [4] as far as they speak of it."""

import random
import unittest

from samples import (
    BARE, RULE, SMALL, all_lots, asked, lively, lively_roll, odd_values, spoiled, told_doubts, told_holders, told_lot,
)
from soundtitle.cases import Case
from soundtitle.errors import NoPlot, NoTruth
from soundtitle.losing import losing
from soundtitle.lots import lot_of
from soundtitle.warrants import is_warrant, shortest_in, warrants, warrants_in

CASE = Case(SMALL, {}, (), None)


def told_warrants(arguments, holders, name):
    """All warrants for a name, by a plain walk of all lots and all truths."""
    words = {truth: told_lot(arguments, truth) for truth in holders}
    found = []
    for lot in all_lots([doubt[0] for doubt in told_doubts(*arguments[:3])]):
        agreeing = [truth for truth in holders if set(lot) <= words[truth]]
        if agreeing and all(holders[truth] == name for truth in agreeing):
            found.append(lot)
    return found


class Small(unittest.TestCase):
    def test_the_example_of_the_document(self):
        self.assertEqual(warrants(CASE, "acre", RULE, "bea"), [((1, "sound"),)])
        self.assertEqual(warrants(CASE, "acre", RULE, "fay"), [((0, "void"), (1, "void"))])

    def test_the_roll_of_the_document(self):
        self.assertEqual(warrants(CASE, "acre", RULE, "xan"), [((0, "sound"), (1, "void"))])
        self.assertEqual(warrants(CASE, "acre", RULE, "zoe"), [])
        self.assertEqual(warrants_in(CASE, "acre", RULE, "bea", (0,)), [((1, "sound"),)])
        self.assertEqual(warrants_in(CASE, "acre", RULE, "bea", (0, 1)), [])
        self.assertEqual([shortest_in(CASE, "acre", RULE, "bea", truth) for truth in ((), (0,))], [1, 1])
        self.assertEqual(shortest_in(CASE, "acre", RULE, "fay", (0, 1)), 2)
        self.assertIs(shortest_in(CASE, "acre", RULE, "fay", (0,)), None)

    def test_what_is_sure_needs_no_words(self):
        for case in (CASE.found(1, "sound"), Case(SMALL, {}, (), 0)):
            self.assertEqual(warrants(case, "acre", RULE, "bea"), [()])
            self.assertEqual(warrants_in(case, "acre", RULE, "bea", ()), [()])
            self.assertEqual(shortest_in(case, "acre", RULE, "bea", ()), 0)
            self.assertIs(is_warrant(case, "acre", RULE, "bea", ()), True)
            self.assertIs(is_warrant(case, "acre", RULE, "fay", ()), False)

    def test_no_papers(self):
        case = Case(BARE, {}, (), None)
        self.assertEqual([warrants(case, "acre", RULE, name) for name in ("fay", "zoe")], [[()], []])
        self.assertIs(is_warrant(case, "acre", RULE, "fay", ()), True)

    def test_the_bound(self):
        # A void paper tells that all others are sound.
        case = Case(SMALL, {}, (), 1)
        self.assertEqual(warrants(case, "acre", RULE, "bea"), [((0, "void"),), ((1, "sound"),)])
        self.assertEqual(warrants(case, "acre", RULE, "xan"), [((1, "void"),)])
        # No truth of the Case agrees with two void ones.
        self.assertIs(is_warrant(case, "acre", RULE, "fay", ((0, "void"), (1, "void"))), False)
        self.assertEqual(warrants(case, "acre", RULE, "fay"), [])

    def test_made_cases(self):
        for arguments, plot, rule in asked(60, 4):
            self.assert_warrants(arguments, plot, rule)

    def test_papers_that_hang_together(self):
        for arguments, plot, rule in lively(60, 5):
            self.assert_warrants(arguments, plot, rule)

    def assert_warrants(self, arguments, plot, rule):
        case, holders = Case(*arguments), told_holders(arguments, plot, rule)
        for name in ("ann", "bob", "cid", "zoe"):
            fine = told_warrants(arguments, holders, name)
            least = [lot for lot in fine if not any(set(other) < set(lot) for other in fine)]
            self.assertEqual(warrants(case, plot, rule, name), sorted(least))
            for lot in all_lots([doubt[0] for doubt in case.doubts()]):
                self.assertIs(is_warrant(case, plot, rule, name, lot), lot in fine)
            for truth in holders:
                some = [lot for lot in sorted(least) if set(lot) <= told_lot(arguments, truth)]
                self.assertEqual(warrants_in(case, plot, rule, name, truth), some)
                expected = min(map(len, some), default=None)
                self.assertEqual(shortest_in(case, plot, rule, name, truth), expected)

    def test_least_lots_that_leave_some_truth_and_disagree_with_each_losing_one(self):
        for arguments, plot, rule in lively(40, 5, 2):
            case = Case(*arguments)
            words = {truth: set(lot_of(case, truth)) for truth in case.truths()}
            for name in ("ann", "bob"):
                lost = losing(case, plot, rule, name)
                fine = [
                    lot for lot in all_lots([doubt[0] for doubt in case.doubts()])
                    if any(set(lot) <= some for some in words.values())
                    and not any(set(lot) <= words[truth] for truth in lost)
                ]
                least = [lot for lot in fine if not any(set(other) < set(lot) for other in fine)]
                self.assertEqual(warrants(case, plot, rule, name), sorted(least))


class Ten(unittest.TestCase):
    def test_ten_doubts(self):
        for seed, most in ((1, None), (2, 4)):
            case = Case(lively_roll(random.Random(seed), 10), {}, (), most)
            words = {truth: set(lot_of(case, truth)) for truth in case.truths()}
            for name in ("ann", "bob"):
                lost = losing(case, "acre", RULE, name)
                found = warrants(case, "acre", RULE, name)
                self.assertEqual(found, sorted(set(found)))
                for lot in found:
                    self.assertIs(is_warrant(case, "acre", RULE, name, lot), True)
                    for at in range(len(lot)):
                        self.assertIs(is_warrant(case, "acre", RULE, name, lot[:at] + lot[at + 1:]), False)
                for truth in case.truths():
                    # Each truth in which the name holds is told by its own lot of all doubts, and by a part of it.
                    self.assertEqual(any(set(lot) <= words[truth] for lot in found), truth not in lost)


class AnyValue(unittest.TestCase):
    def test_any_value(self):
        case = Case(SMALL, {}, (), 1)
        holders = told_holders((SMALL, {}, (), 1), "acre", RULE)
        fine = [repr(lot) for lot in told_warrants((SMALL, {}, (), 1), holders, "bea")]
        things = odd_values()
        for lot in all_lots([0, 1]):
            things.append(lot)
            things.extend(spoiled(lot))
        for thing in things:
            self.assertIs(is_warrant(case, "acre", RULE, "bea", thing), repr(thing) in fine, thing)

    def test_true_is_not_one(self):
        self.assertIs(is_warrant(CASE, "acre", RULE, "bea", ((1, "sound"),)), True)
        for thing in (((True, "sound"),), [(1, "sound")], ([1, "sound"],), ((1, "sound"), (1, "sound")), (1, "sound")):
            self.assertIs(is_warrant(CASE, "acre", RULE, "bea", thing), False)

    def test_any_value_that_is_no_truth_is_refused(self):
        case = Case(SMALL, {}, (), 1)
        for thing in odd_values() + [(0, 1), (True,), (2,), [0]]:
            if repr(thing) not in ("()", "(0,)", "(1,)"):
                for call in (warrants_in, shortest_in):
                    with self.assertRaises(NoTruth) as caught:
                        call(case, "acre", RULE, "bea", thing)
                    self.assertIs(caught.exception.truth, thing)
                    with self.assertRaises(NoPlot):
                        call(case, "moor", RULE, "bea", thing)

    def test_names_by_turns(self):
        names = ("bea", "fay", "xan", "zoe")
        found = [warrants(CASE, "acre", RULE, name) for name in names]
        self.assertEqual(found[::-1], [warrants(CASE, "acre", RULE, name) for name in names[::-1]])
        found[0].clear()
        self.assertEqual(warrants(CASE, "acre", RULE, "bea"), [((1, "sound"),)])


if __name__ == "__main__":
    unittest.main()
