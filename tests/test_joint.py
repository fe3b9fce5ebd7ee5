"""[90]; [3] and [4] as far as they speak of it."""

import itertools
import random
import unittest
from collections import Counter

from samples import (
    BARE, RULE, RULES, SMALL, WIDE, lively, lively_roll, made_cases, odd_values, told_doubts, told_states, told_truths,
)
from soundtitle.cases import Case
from soundtitle.errors import NoPlot
from soundtitle.joint import bound_plots, joint, may_have, sure_of_many, sure_of_one
from soundtitle.numbers import holders_many
from soundtitle.rolls import plots, with_paper

TWO = (
    (("acre", "fay"), ("glen", "fay"), ("moor", "fay")),
    (("sale", "fay", "ann", ("acre", "glen"), 1, 1), ("sale", "fay", "bob", ("moor",), 2, None)),
)
CASE = Case(TWO, {}, (), None)


class Small(unittest.TestCase):
    def test_plots_that_hang_together(self):
        self.assertEqual(list(joint(CASE, ("acre", "glen", "moor"), RULE).items()), [
            (("ann", "ann", "bob"), 1), (("ann", "ann", "fay"), 1),
            (("fay", "fay", "bob"), 1), (("fay", "fay", "fay"), 1),
        ])
        self.assertEqual(joint(CASE, ("glen", "moor"), RULE), {
            ("ann", "bob"): 1, ("ann", "fay"): 1, ("fay", "bob"): 1, ("fay", "fay"): 1,
        })
        self.assertEqual(joint(CASE, ("moor",), RULE), {("bob",): 2, ("fay",): 2})
        self.assertEqual(bound_plots(CASE, RULE), [("acre", "glen")])
        # A bound binds what papers do not.
        self.assertEqual(bound_plots(Case(TWO, {}, (), 1), RULE), [
            ("acre", "glen"), ("acre", "moor"), ("glen", "moor"),
        ])
        self.assertEqual(bound_plots(Case(TWO, {}, (), 0), RULE), [])
        self.assertEqual(bound_plots(Case(TWO, {}, ((0, 1),), None), RULE), [
            ("acre", "glen"), ("acre", "moor"), ("glen", "moor"),
        ])

    def test_no_plots(self):
        self.assertEqual(joint(CASE, (), RULE), {(): 4})
        self.assertEqual(joint(Case(BARE, {}, (), None), (), RULE), {(): 1})
        for name in ("fay", "zoe"):
            self.assertIs(sure_of_one(CASE, (), RULE, name), False)
            self.assertIs(sure_of_one(Case(BARE, {}, (), None), (), RULE, name), False)

    def test_how_many_at_least_and_at_most(self):
        self.assertEqual([sure_of_many(CASE, RULE, name) for name in ("ann", "bob", "fay", "zoe")], [0, 0, 0, 0])
        self.assertEqual([may_have(CASE, RULE, name) for name in ("ann", "bob", "fay", "zoe")], [2, 1, 3, 0])
        case = Case(TWO, {}, (), 1)
        self.assertEqual([sure_of_many(case, RULE, "ann"), may_have(case, RULE, "ann")], [0, 2])
        self.assertEqual([sure_of_many(case, RULE, "fay"), may_have(case, RULE, "fay")], [0, 2])
        case = Case(TWO, {0: "sound"}, (), None)
        self.assertEqual([sure_of_many(case, RULE, "ann"), may_have(case, RULE, "ann")], [2, 2])

    def test_one_of_several(self):
        # Either the elder or the later sale is void, but which one is not known.
        papers = (("sale", "fay", "ann", ("acre",), 1, 1), ("sale", "ann", "fay", ("acre",), 2, 2))
        roll = ((("acre", "fay"), ("moor", "ann")), papers + (("sale", "ann", "fay", ("moor",), 3, 3),))
        case = Case(roll, {0: "sound"}, ((1, 2),), None)
        self.assertEqual(joint(case, ("acre", "moor"), RULE), {("ann", "ann"): 1, ("fay", "fay"): 1})
        for name in ("ann", "fay"):
            self.assertIs(sure_of_one(case, ("acre", "moor"), RULE, name), False)
        case = Case(roll, {0: "sound", 1: "sound"}, (), None)
        self.assertEqual([sure_of_one(case, some, RULE, "fay") for some in (("acre",), ("moor",), ("acre", "moor"))], [
            True, False, True,
        ])

    def test_a_single_plot_is_never_bound(self):
        for rule in RULES:
            self.assertEqual(bound_plots(Case(SMALL, {}, (), None), rule), [])

    def test_any_other_plot_is_refused_the_first_one_of_them(self):
        for thing in odd_values() + ["moat", "zzz"]:
            if thing != "acre":
                with self.assertRaises(NoPlot) as caught:
                    joint(CASE, (thing,), RULE)
                self.assertIs(caught.exception.plot, thing)
        for some, expected in ((("abc", "acre", "moat"), "abc"), (("acre", "moat", "nest"), "moat")):
            with self.assertRaises(NoPlot) as caught:
                joint(CASE, some, RULE)
            self.assertEqual(caught.exception.plot, expected)

    def test_what_is_returned_may_be_changed(self):
        for _ in range(2):
            self.assertEqual(len(joint(CASE, ("acre", "moor"), RULE)), 4)
            joint(CASE, ("acre", "moor"), RULE).clear()
            self.assertEqual(bound_plots(CASE, RULE), [("acre", "glen")])
            bound_plots(CASE, RULE).clear()


class AllTruths(unittest.TestCase):
    def cases(self):
        found = [arguments for arguments in made_cases(60) if len(told_doubts(*arguments[:3])) <= 6]
        found += [arguments for arguments, _, _ in lively(40, 6, 51) if len(plots(arguments[0])) == 2]
        return found

    def test_small_cases_by_all_rules(self):
        for arguments in self.cases():
            case, truths = Case(*arguments), told_truths(*arguments)
            for rule in RULES:
                ends = {
                    plot: [told_states(arguments[0], plot, rule, truth)[-1][0] for truth in truths]
                    for plot in plots(arguments[0])
                }
                self.assert_joint(case, rule, ends)

    def assert_joint(self, case, rule, ends):
        every = list(zip(*ends.values()))
        for size in range(len(ends) + 1):
            for some in itertools.combinations(sorted(ends), size):
                rows = list(zip(*[ends[plot] for plot in some])) or [()] * case.count()
                self.assertEqual(list(joint(case, some, rule).items()), sorted(Counter(rows).items()))
                for name in ("ann", "zoe"):
                    self.assertIs(sure_of_one(case, some, rule, name), all(name in row for row in rows))
        for name in ("ann", "bob", "zoe"):
            many = [row.count(name) for row in every]
            self.assertEqual([sure_of_many(case, rule, name), may_have(case, rule, name)], [min(many), max(many)])
        bound = [
            (one, other) for one, other in itertools.combinations(sorted(ends), 2)
            if len(set(zip(ends[one], ends[other]))) < len(set(ends[one])) * len(set(ends[other]))
        ]
        self.assertEqual(bound_plots(case, rule), bound)

    def test_four_plots_and_ten_doubts(self):
        source = random.Random(3)
        held = ("acre", "glen", "moor", "weir")
        for rule in RULES[::4]:
            roll = (tuple((plot, "ann") for plot in held), ())
            for number in range(10):
                some = tuple(sorted(source.sample(held, source.randint(1, 2))))
                one, other = source.sample(["ann", "bob", "cid"], 2)
                day = source.randint(0, 9)
                paper = ("sale", one, other, some, day, source.choice([None, day + 1]))
                roll = with_paper(roll, number, paper)
            case = Case(roll, {}, (), None)
            found = joint(case, held, rule)
            self.assertEqual(sum(found.values()), 1024)
            for at, plot in enumerate(held):
                side = Counter()
                for row, many in found.items():
                    side[row[at]] += many
                self.assertEqual(side, holders_many(case, plot, rule))
            self.assertEqual(may_have(case, rule, "ann"), max(row.count("ann") for row in found))

    def test_plots_without_papers(self):
        roll = lively_roll(random.Random(4), 4)
        roll = (roll[0] + (("zeal", "zoe"),), roll[1])
        case = Case(roll, {}, (), None)
        for rule in RULES[::5]:
            found = joint(case, ("acre", "zeal"), rule)
            self.assertEqual({row[1] for row in found}, {"zoe"})
            self.assertEqual([sure_of_many(case, rule, "zoe"), may_have(case, rule, "zoe")], [1, 1])
            self.assertFalse(any("zeal" in pair for pair in bound_plots(case, rule)))
        self.assertEqual(joint(Case(WIDE, {}, (), 0), ("acre", "moor"), ("drawn", "never")), {("fay", "bea"): 1})


if __name__ == "__main__":
    unittest.main()
