"""[81], with [32]; [3] and [4] as far as they speak of it."""

import copy
import itertools
import unittest
from collections import Counter

from samples import (
    BARE, RULE, RULES, SMALL, WIDE, hanging_roll, long_roll, small_cases, told_doubts, told_states, told_voids,
)
from soundtitle.cases import Case
from soundtitle.numbers import holders_many
from soundtitle.parting import pairs_many, parted_by, parted_many
from soundtitle.rolls import plots
from soundtitle.walks import holder

CASE = Case(SMALL, {}, (), None)
DRAWN = ("drawn", "never")


class Small(unittest.TestCase):
    def test_the_roll_of_the_document(self):
        self.assertEqual(list(pairs_many(CASE, "acre", RULE, DRAWN).items()), [
            (("bea", "bea"), 1), (("bea", "fay"), 1), (("fay", "fay"), 1), (("xan", "xan"), 1),
        ])
        self.assertEqual([parted_many(CASE, "acre", RULE, DRAWN), parted_by(CASE, "acre", RULE, DRAWN)], [1, (0,)])
        self.assertEqual(list(pairs_many(CASE, "acre", DRAWN, RULE).items()), [
            (("bea", "bea"), 1), (("fay", "bea"), 1), (("fay", "fay"), 1), (("xan", "xan"), 1),
        ])

    def test_a_bound_that_lets_them_not_part(self):
        case = Case(SMALL, {}, (), 0)
        self.assertEqual(pairs_many(case, "acre", RULE, DRAWN), {("bea", "bea"): 1})
        self.assertEqual(parted_many(case, "acre", RULE, DRAWN), 0)
        self.assertIs(parted_by(case, "acre", RULE, DRAWN), None)

    def test_what_is_known_to_be_void_is_told_and_not_counted(self):
        case = Case(SMALL, {0: "void"}, (), 0)
        self.assertEqual([parted_many(case, "acre", RULE, DRAWN), parted_by(case, "acre", RULE, DRAWN)], [1, (0,)])

    def test_no_papers(self):
        case = Case(BARE, {}, (), None)
        for one, other in itertools.product(RULES, repeat=2):
            self.assertEqual(pairs_many(case, "acre", one, other), {("fay", "fay"): 1})
            self.assertEqual([parted_many(case, "acre", one, other), parted_by(case, "acre", one, other)], [0, None])

    def test_doubts_without_a_moment_of_the_plot_count(self):
        case = Case(WIDE, {0: "sound", 1: "void", 2: "sound", 6: "void"}, ((3, 5),), None)
        self.assertEqual(pairs_many(case, "acre", RULE, DRAWN), {("fay", "fay"): 8})
        case = Case(WIDE, {0: "sound", 1: "void", 2: "sound", 6: "void"}, ((3, 5),), 1)
        self.assertEqual(pairs_many(case, "acre", RULE, DRAWN), {("fay", "fay"): 4})
        # The forged sale makes xan the holder by "once" alone.
        once = ("entered", "once")
        self.assertEqual(pairs_many(case, "acre", once, DRAWN), {("xan", "fay"): 4})
        self.assertEqual([parted_many(case, "acre", once, DRAWN), parted_by(case, "acre", once, DRAWN)], [4, (1, 6)])

    def test_rules_of_one_doctrine_never_part(self):
        for one, other in itertools.product(RULES, repeat=2):
            if one == other or one[0] == other[0] == "drawn":
                found = pairs_many(CASE, "acre", one, other)
                self.assertEqual({name for pair in found for name in pair}, set(holders_many(CASE, "acre", one)))
                self.assertTrue(all(name == elsewhere for name, elsewhere in found))
                self.assertEqual(parted_many(CASE, "acre", one, other), 0)
                self.assertIs(parted_by(CASE, "acre", one, other), None)

    def test_small_cases_by_all_pairs_of_rules(self):
        for arguments, told in small_cases(24):
            case = Case(*arguments)
            voids = {truth: len(told_voids(arguments, truth)) for truth in told[RULE][plots(arguments[0])[0]]}
            for plot in plots(arguments[0]):
                for one, other in itertools.product(RULES, repeat=2):
                    by_one, by_other = told[one][plot], told[other][plot]
                    expected = Counter((by_one[truth], by_other[truth]) for truth in by_one)
                    parted = [truth for truth in by_one if by_one[truth] != by_other[truth]]
                    found = pairs_many(case, plot, one, other)
                    self.assertEqual(list(found.items()), sorted(expected.items()))
                    self.assertEqual(parted_many(case, plot, one, other), len(parted))
                    truth = parted_by(case, plot, one, other)
                    if parted:
                        self.assertIn(truth, parted)
                        self.assertEqual(voids[truth], min(voids[other] for other in parted))
                    else:
                        self.assertIs(truth, None)

    def test_what_is_returned_may_be_changed(self):
        for _ in range(2):
            found = pairs_many(CASE, "acre", RULE, DRAWN)
            self.assertEqual(len(found), 4)
            found.clear()
        again = Case(*copy.deepcopy((SMALL, {}, (), None)))
        self.assertEqual(pairs_many(CASE, "acre", RULE, DRAWN), pairs_many(again, "acre", RULE, DRAWN))


class Forty(unittest.TestCase):
    PAIRS = [
        (("both", "never"), ("entered", "next")), (("innocent", "once"), ("drawn", "next")),
        (("both", "once"), ("innocent", "never")), (("entered", "never"), ("entered", "once")),
    ]

    def cases(self):
        for seed, known, groups, most in (
            (0, {}, (), None), (1, {4: "void", 9: "sound"}, ((2, 7), (11, 30)), None), (2, {}, ((5, 6, 7),), 6),
        ):
            yield Case(long_roll(seed, ("sale", "sale", "loan")), known, groups, most)
        yield Case(hanging_roll(3), {}, (), None)

    def test_each_side_is_what_its_rule_tells(self):
        for case in self.cases():
            for one, other in self.PAIRS:
                found = pairs_many(case, "acre", one, other)
                self.assertEqual(list(found), sorted(found))
                for at, rule in enumerate((one, other)):
                    side = Counter()
                    for pair, many in found.items():
                        side[pair[at]] += many
                    self.assertEqual(side, holders_many(case, "acre", rule))
                parted = parted_many(case, "acre", one, other)
                self.assertEqual(parted, sum(many for (a, b), many in found.items() if a != b))
                truth = parted_by(case, "acre", one, other)
                self.assertEqual(truth is None, parted == 0)
                if parted:
                    self.assertTrue(case.is_truth(truth))
                    ends = [holder(case.roll(), "acre", rule, truth) for rule in (one, other)]
                    self.assertNotEqual(*ends)
                    # With fewer void doubts they part in no truth.
                    if case.voids(truth):
                        less = Case(case.roll(), case.known(), case.groups(), case.voids(truth) - 1)
                        self.assertEqual(parted_many(less, "acre", one, other), 0)

    def test_two_void_papers_at_most(self):
        for roll in (long_roll(3), hanging_roll(4)):
            case = Case(roll, {}, (), 2)
            truths = case.truths()
            for one, other in self.PAIRS[::2]:
                ends = [[told_states(roll, "acre", rule, truth)[-1][0] for truth in truths] for rule in (one, other)]
                expected = Counter(zip(*ends))
                self.assertEqual(list(pairs_many(case, "acre", one, other).items()), sorted(expected.items()))
                parted = [len(truth) for truth, a, b in zip(truths, *ends) if a != b]
                truth = parted_by(case, "acre", one, other)
                self.assertEqual(None if truth is None else len(truth), min(parted, default=None))

    def test_forty_doubts_elsewhere(self):
        papers = tuple(("loan", "fay", "len", "moor", 5, day, day + 1) for day in range(39))
        roll = ((("acre", "fay"), ("moor", "gil")), papers + (("sale", "fay", "xan", ("acre",), 3, 3),))
        case = Case(roll, {}, (), None)
        self.assertEqual(len(told_doubts(roll, {}, ())), 40)
        self.assertEqual(pairs_many(case, "acre", ("both", "once"), RULE), {
            ("xan", "fay"): 2 ** 39, ("xan", "xan"): 2 ** 39,
        })
        self.assertEqual(parted_by(case, "acre", ("both", "once"), RULE), (39,))
        self.assertEqual(pairs_many(Case(roll, {}, (), 1), "acre", ("both", "once"), RULE), {
            ("xan", "fay"): 1, ("xan", "xan"): 40,
        })


if __name__ == "__main__":
    unittest.main()
