"""[84], with [6] and [35]; [3] and [4] as far as they speak of them."""

import unittest
from collections import Counter

from samples import (
    BARE, RULES, SMALL, asked, hanging_roll, lively, long_roll, odd_values, told_losses, told_states,
    told_truths,
)
from soundtitle.cases import Case
from soundtitle.errors import NoPlot, NoTruth
from soundtitle.fund import claims, claims_most_of, least_claims, most_claims
from soundtitle.moments import moments

CASE = Case(SMALL, {}, (), None)
ONCE = ("both", "once")
FIRST = (("acre", "fay"),)


def told_claims(roll, plot, rule, truth):
    line = told_states(roll, plot, rule, truth)
    return Counter(line[at][0] for at in told_losses(roll, plot, rule, truth))


def sale(seller, buyer, drawn, entered):
    return ("sale", seller, buyer, ("acre",), drawn, entered)


class OneTruth(unittest.TestCase):
    def test_the_roll_of_the_document(self):
        self.assertEqual(claims(SMALL, "acre", ONCE, (0,)), {"fay": 1})
        self.assertEqual(list(claims(SMALL, "acre", ONCE, (0, 1)).items()), [("fay", 1), ("xan", 1)])
        self.assertEqual(claims(SMALL, "acre", ONCE, ()), {})
        self.assertEqual(claims(SMALL, "acre", ("drawn", "once"), (0, 1)), {})
        self.assertEqual(claims(BARE, "acre", ONCE, ()), {})

    def test_one_person_with_several_claims(self):
        papers = []
        for day in range(0, 12, 4):
            papers += [sale("fay", "ann", day, None), sale("fay", "bob", day, day)]
            papers.append(sale("bob", "fay", day + 1, day + 1))
        self.assertEqual(claims((FIRST, tuple(papers)), "acre", ("entered", "never"), ()), {"ann": 3})

    def test_an_override_of_who_is_the_holder_already_is_no_claim(self):
        roll = (FIRST, (sale("fay", "bob", 1, None), sale("fay", "bob", 2, 3), sale("bob", "cid", 4, 9)))
        for prior in ("entered", "innocent", "both"):
            self.assertEqual(claims(roll, "acre", (prior, "never"), ()), {})

    def test_all_rules(self):
        for arguments, plot, _ in lively(40, 8, 41):
            for truth in told_truths(arguments[0], {}, (), None)[::17]:
                for rule in RULES:
                    found = claims(arguments[0], plot, rule, truth)
                    expected = told_claims(arguments[0], plot, rule, truth)
                    self.assertEqual(list(found.items()), sorted(expected.items()))

    def test_other_plots_are_refused_ahead_of_other_truths(self):
        for thing in odd_values() + ["moor"]:
            if thing != "acre":
                for truth in ((), None):
                    with self.assertRaises(NoPlot) as caught:
                        claims(SMALL, thing, ONCE, truth)
                    self.assertIs(caught.exception.plot, thing)
            if repr(thing) not in ("()", "(0,)"):
                with self.assertRaises(NoTruth) as caught:
                    claims(SMALL, "acre", ONCE, thing)
                self.assertIs(caught.exception.truth, thing)


class OfACase(unittest.TestCase):
    def test_the_roll_of_the_document(self):
        self.assertEqual([most_claims(CASE, "acre", ONCE), least_claims(CASE, "acre", ONCE)], [2, 0])
        self.assertEqual(list(claims_most_of(CASE, "acre", ONCE).items()), [("fay", 1), ("xan", 1)])
        # Who loses by two forged papers loses nothing by one.
        case = Case(SMALL, {}, (), 1)
        self.assertEqual(most_claims(case, "acre", ONCE), 1)
        self.assertEqual(claims_most_of(case, "acre", ONCE), {"fay": 1, "xan": 1})
        case = Case(SMALL, {0: "void", 1: "void"}, (), 0)
        self.assertEqual([least_claims(case, "acre", ONCE), most_claims(case, "acre", ONCE)], [2, 2])
        for rule in (("drawn", "never"), ("drawn", "once")):
            self.assertEqual([most_claims(CASE, "acre", rule), claims_most_of(CASE, "acre", rule)], [0, {}])

    def test_no_papers(self):
        wider = (SMALL[0] + (("moor", "gil"),), SMALL[1])
        for case, plot in ((Case(BARE, {}, (), None), "acre"), (Case(wider, {}, (), 1), "moor")):
            found = [call(case, plot, ONCE) for call in (most_claims, least_claims, claims_most_of)]
            self.assertEqual(found, [0, 0, {}])

    def test_small_cases(self):
        for arguments, plot, rule in asked(40, 7) + lively(150, 7, 42):
            case = Case(*arguments)
            rows = [told_claims(arguments[0], plot, rule, truth) for truth in told_truths(*arguments)]
            totals = [sum(row.values()) for row in rows]
            self.assertEqual(most_claims(case, plot, rule), max(totals))
            self.assertEqual(least_claims(case, plot, rule), min(totals))
            most = {name: max(row[name] for row in rows) for name in sorted({name for row in rows for name in row})}
            self.assertEqual(list(claims_most_of(case, plot, rule).items()), list(most.items()))

    def test_by_all_rules(self):
        for at, (arguments, plot, _) in enumerate(lively(24, 6, 43)):
            for rule in RULES:
                case = Case(arguments[0], {}, (), (None, 1, 2)[at % 3])
                rows = [told_claims(arguments[0], plot, rule, truth) for truth in case.truths()]
                totals = [sum(row.values()) for row in rows]
                self.assertEqual(
                    (most_claims(case, plot, rule), least_claims(case, plot, rule)), (max(totals), min(totals))
                )

    def test_what_is_returned_may_be_changed(self):
        for _ in range(2):
            self.assertEqual(claims_most_of(CASE, "acre", ONCE), {"fay": 1, "xan": 1})
            claims_most_of(CASE, "acre", ONCE).clear()
            self.assertEqual(claims(SMALL, "acre", ONCE, (0,)), {"fay": 1})
            claims(SMALL, "acre", ONCE, (0,)).clear()


class Forty(unittest.TestCase):
    def test_a_row_of_claims(self):
        # Each of the twenty forged sales by fay takes the plot from her; then she gets it back.
        papers = []
        for at in range(20):
            papers += [sale("fay", "ann", 4 * at, 4 * at + 1), sale("ann", "fay", 4 * at + 2, 4 * at + 3)]
        for most, expected in ((None, 40), (7, 7), (0, 0), (1, 1)):
            case = Case((FIRST, tuple(papers)), {}, (), most)
            self.assertEqual([most_claims(case, "acre", ONCE), least_claims(case, "acre", ONCE)], [expected, 0])
            part = {None: 20}.get(most, most)
            self.assertEqual(claims_most_of(case, "acre", ONCE), {"ann": part, "fay": part} if part else {})
        case = Case((FIRST, tuple(papers)), {number: "void" for number in range(0, 40, 2)}, (), None)
        self.assertEqual([least_claims(case, "acre", ONCE), most_claims(case, "acre", ONCE)], [20, 40])

    def test_two_void_papers_at_most(self):
        for roll in (hanging_roll(1), long_roll(2, ("sale", "sale", "loan"))):
            case = Case(roll, {}, (), 2)
            for rule in RULES[::3]:
                rows = [told_claims(roll, "acre", rule, truth) for truth in case.truths()]
                totals = [sum(row.values()) for row in rows]
                found = (most_claims(case, "acre", rule), least_claims(case, "acre", rule))
                self.assertEqual(found, (max(totals), min(totals)))
                most = {name: max(row[name] for row in rows) for row in rows for name in row}
                self.assertEqual(claims_most_of(case, "acre", rule), most)

    def test_more_doubts_may_make_more_claims(self):
        for seed in range(3):
            roll = hanging_roll(seed)
            self.assertEqual(len(moments(roll, "acre")), 80)
            for rule in RULES[seed::4]:
                found = []
                for most in (0, 3, 12, None):
                    case = Case(roll, {}, ((2, 3), (9, 14, 30)), most)
                    table = claims_most_of(case, "acre", rule)
                    found.append((most_claims(case, "acre", rule), -least_claims(case, "acre", rule)))
                    self.assertTrue(all(many <= found[-1][0] for many in table.values()))
                    self.assertLessEqual(found[-1][0], sum(table.values()))
                self.assertEqual([row[0] for row in found], sorted(row[0] for row in found))
                self.assertEqual([row[1] for row in found], sorted(row[1] for row in found))
                self.assertEqual(found[0][0], -found[0][1])


if __name__ == "__main__":
    unittest.main()
