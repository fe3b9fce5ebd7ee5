"""[51], with [8]; [3] and [4] as far as they speak of it."""

import math
import unittest
from collections import Counter

from samples import (
    BARE, RULE, RULES, SMALL, WIDE, long_roll, made_cases, odd_values, told_doubts, told_states, told_truths,
)
from soundtitle.cases import Case
from soundtitle.errors import NoPlot
from soundtitle.numbers import holders_many, numbers
from soundtitle.rolls import plots

CASE = Case(SMALL, {}, (), None)
PEOPLE = ["ann", "bob", "cid", "dan", "eve", "fay", "gil", "hal"]


def ring(many):
    """Sales from each of eight persons to the next one, each entered ahead of the next one's drawing."""
    papers = []
    for at in range(many):
        papers.append(("sale", PEOPLE[at % 8], PEOPLE[(at + 1) % 8], ("acre",), 2 * at, 2 * at + 1))
    return ((("acre", "ann"),), tuple(papers))


def told_ring(many, forged):
    """Of the sales of a ring: who holds the plot in how many truths, with prior "entered", sale by sale."""
    found = Counter({("ann", "ann", 0): 1})
    for _, seller, buyer, _, _, _ in ring(many)[1]:
        behind = Counter()
        for (holder, base, voids), ways in found.items():
            void_base = buyer if seller == base and forged != "never" else base
            void_holder = buyer if seller == base and forged == "once" else holder
            # What is sound is drawn and entered at once: it moves the title of its seller, or it overrides.
            sound_holder = buyer if seller in (holder, base) else holder
            behind[(sound_holder, buyer if seller == base else base, voids)] += ways
            behind[(void_holder, void_base, voids + 1)] += ways
        found = behind
    total = Counter()
    for (holder, _, voids), ways in found.items():
        total[(holder, voids)] += ways
    return total


class Counted(unittest.TestCase):
    def test_the_example_of_the_document(self):
        self.assertEqual(
            list(numbers(CASE, "acre", ("entered", "next")).items()),
            [(("bea", 0), 1), (("bea", 1), 1), (("fay", 2), 1), (("xan", 1), 1)],
        )
        self.assertEqual(
            list(holders_many(CASE, "acre", ("entered", "next")).items()), [("bea", 2), ("fay", 1), ("xan", 1)]
        )

    def test_no_papers(self):
        for most in (None, 0, 3):
            case = Case(BARE, {}, (), most)
            self.assertEqual(numbers(case, "acre", RULE), {("fay", 0): 1})
            self.assertEqual(holders_many(case, "acre", RULE), {"fay": 1})

    def test_doubts_without_a_moment_of_the_plot_count(self):
        case = Case(WIDE, {0: "sound", 1: "void", 2: "sound", 6: "void"}, ((3, 5),), None)
        self.assertEqual(numbers(case, "acre", RULE), {("fay", 0): 1, ("fay", 1): 3, ("fay", 2): 3, ("fay", 3): 1})
        case = Case(WIDE, {0: "sound", 1: "void", 2: "sound", 6: "void"}, ((3, 5),), 1)
        self.assertEqual(numbers(case, "acre", RULE), {("fay", 0): 1, ("fay", 1): 3})

    def test_made_cases(self):
        for arguments in made_cases(80):
            case, truths = Case(*arguments), told_truths(*arguments)
            doubts = told_doubts(*arguments[:3])
            voids = {truth: len([doubt for doubt in doubts if doubt[0] in truth]) for truth in truths}
            for plot in plots(arguments[0]):
                for rule in RULES:
                    ends = {truth: told_states(arguments[0], plot, rule, truth)[-1][0] for truth in truths}
                    both = Counter((ends[truth], voids[truth]) for truth in truths)
                    alone = Counter(ends.values())
                    self.assertEqual(list(numbers(case, plot, rule).items()), sorted(both.items()))
                    self.assertEqual(list(holders_many(case, plot, rule).items()), sorted(alone.items()))


class Forty(unittest.TestCase):
    def test_two_void_papers_at_most(self):
        for seed in range(3):
            roll = long_roll(seed, ("sale", "sale", "loan"))
            case = Case(roll, {}, (), 2)
            for rule in RULES[seed::3]:
                found = Counter((told_states(roll, "acre", rule, truth)[-1][0], len(truth)) for truth in case.truths())
                self.assertEqual(list(numbers(case, "acre", rule).items()), sorted(found.items()))

    def test_papers_of_no_moment(self):
        papers = tuple(("loan", "fay", "len", "moor", 5, day, day + 1) for day in range(40))
        case = Case(((("acre", "fay"), ("moor", "gil")), papers), {}, (), None)
        self.assertEqual(numbers(case, "acre", RULE), {("fay", many): math.comb(40, many) for many in range(41)})
        self.assertEqual(holders_many(case, "moor", RULE), {"gil": 2 ** 40})
        case = Case(case.roll(), {0: "void"}, ((1, 2), (5, 7, 9)), 3)
        self.assertEqual(numbers(case, "moor", RULE), {("gil", many): math.comb(36, many) for many in range(4)})

    def test_a_ring_of_sales(self):
        for forged in ("never", "next", "once"):
            for many in (3, 9, 40):
                case = Case(ring(many), {}, (), None)
                expected = sorted(told_ring(many, forged).items())
                self.assertEqual(list(numbers(case, "acre", ("entered", forged)).items()), expected)
            case = Case(ring(40), {}, (), 6)
            expected = [row for row in expected if row[0][1] <= 6]
            self.assertEqual(list(numbers(case, "acre", ("entered", forged)).items()), expected)

    def test_all_truths_are_counted(self):
        for seed in range(8, 12):
            case = Case(long_roll(seed), {}, (), None)
            for rule in RULES:
                found = numbers(case, "acre", rule)
                for many in range(41):
                    self.assertEqual(sum(ways for key, ways in found.items() if key[1] == many), math.comb(40, many))
                self.assertEqual(sum(holders_many(case, "acre", rule).values()), 2 ** 40)

    def test_what_is_found_parts_the_truths(self):
        case = Case(long_roll(12), {}, ((2, 11), (7, 8)), None)
        for head in (0, 2, 7, 39):
            for rule in RULES[::5]:
                found = Counter(numbers(case.found(head, "sound"), "acre", rule))
                for (name, many), ways in numbers(case.found(head, "void"), "acre", rule).items():
                    found[(name, many + 1)] += ways
                self.assertEqual(list(numbers(case, "acre", rule).items()), sorted(found.items()))


class Refused(unittest.TestCase):
    def test_any_other_plot_is_refused(self):
        for call in (numbers, holders_many):
            for thing in odd_values() + ["moor"]:
                if thing != "acre":
                    with self.assertRaises(NoPlot) as caught:
                        call(CASE, thing, RULE)
                    self.assertIs(caught.exception.plot, thing)

    def test_what_is_returned_may_be_changed(self):
        for call in (numbers, holders_many):
            before = call(CASE, "acre", RULE)
            call(CASE, "acre", RULE).clear()
            self.assertEqual(call(CASE, "acre", RULE), before)

    def test_what_was_asked_ahead_changes_nothing(self):
        case = Case(SMALL, {}, (), None)
        found = [numbers(case, "acre", rule) for rule in RULES]
        self.assertEqual([numbers(case, "acre", rule) for rule in RULES[::-1]][::-1], found)
        self.assertEqual(found, [numbers(Case(SMALL, {}, (), None), "acre", rule) for rule in RULES])


if __name__ == "__main__":
    unittest.main()
