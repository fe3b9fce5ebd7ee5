"""[80], with [8], [10] and [50]; [3] and [4] as far as they speak of it."""

import itertools
import unittest

from samples import BARE, RULE, RULES, SMALL, WIDE, asked, lively, long_roll, told_states, told_truths
from soundtitle.cases import Case
from soundtitle.forms import is_roll
from soundtitle.graph import Graph
from soundtitle.healing import healers, heals, least_healing, signed
from soundtitle.rolls import names
from soundtitle.surely import is_sure, possible

CASE = Case(SMALL, {}, (), None)
FIRST = (("acre", "fay"),)


def told_signed(roll, plot, name, some):
    days = [day for paper in roll[1] for day in (paper[3:] if paper[0] == "release" else paper[-2:]) if day is not None]
    day = max(days) + 1 if days else 0
    return (roll[0], roll[1] + tuple(
        ("sale", seller, name, (plot,), day, day) for seller in sorted(set(some)) if seller != name
    ))


def told_heals(arguments, plot, rule, name, some):
    roll = told_signed(arguments[0], plot, name, some)
    return all(told_states(roll, plot, rule, truth)[-1][0] == name for truth in told_truths(*arguments))


def subsets(people):
    return [list(some) for size in range(len(people) + 1) for some in itertools.combinations(people, size)]


class Signed(unittest.TestCase):
    def test_a_sale_of_each_but_the_name_itself(self):
        self.assertEqual(signed(SMALL, "acre", "bea", ["xan", "bea", "fay", "xan"]), (FIRST, SMALL[1] + (
            ("sale", "fay", "bea", ("acre",), 7, 7), ("sale", "xan", "bea", ("acre",), 7, 7),
        )))
        self.assertEqual(signed(SMALL, "acre", "zoe", ["gil"])[1][2:], (("sale", "gil", "zoe", ("acre",), 7, 7),))

    def test_nobody_and_no_papers(self):
        self.assertEqual(signed(SMALL, "acre", "bea", []), SMALL)
        self.assertEqual(signed(SMALL, "acre", "bea", ["bea"]), SMALL)
        self.assertEqual(signed(BARE, "acre", "bea", ["fay"]), (FIRST, (("sale", "fay", "bea", ("acre",), 0, 0),)))

    def test_the_first_day_behind_all_days_of_the_roll(self):
        self.assertEqual(signed(WIDE, "acre", "bea", ["gil"])[1][8:], (("sale", "gil", "bea", ("acre",), 12, 12),))

    def test_made_rolls(self):
        for arguments, plot, _ in lively(40, 8, 14):
            for name, some in (("ann", ["bob", "ann"]), ("zoe", ["dan", "cid", "dan"])):
                before = list(some)
                found = signed(arguments[0], plot, name, some)
                self.assertEqual(found, told_signed(arguments[0], plot, name, some))
                self.assertEqual([is_roll(found), some], [True, before])


class Heals(unittest.TestCase):
    def test_the_roll_of_the_document(self):
        self.assertEqual(healers(CASE, "acre", RULE, "fay"), [
            ((("bea", "bea", ()), ()), ("bea",)), ((("fay", "bea", ()), ()), None),
            ((("xan", "bea", ()), ()), ("bea", "xan")),
        ])
        self.assertEqual(least_healing(CASE, "acre", RULE, "fay", []), [("bea",)])
        self.assertEqual(least_healing(CASE, "acre", RULE, "fay", ["bea"]), [])
        self.assertEqual(least_healing(CASE, "acre", RULE, "bea", []), [("fay", "xan")])
        self.assertEqual(least_healing(CASE, "acre", RULE, "zoe", []), [("bea",)])
        self.assertIs(heals(CASE, "acre", RULE, "fay", ["bea"]), True)
        self.assertIs(heals(CASE, "acre", RULE, "fay", ["xan", "fay"]), False)

    def test_the_base_heals_by_some_rules_alone(self):
        # fay is the holder still when xan, who is shown by a void sale, is the base.
        case = Case((FIRST, SMALL[1][:1]), {0: "void"}, (), None)
        node = (("fay", "xan", ()), ())
        for prior, expected in (
            ("drawn", ("fay",)), ("entered", ("fay", "xan")), ("innocent", ("fay", "xan")), ("both", ("fay", "xan")),
        ):
            self.assertEqual(healers(case, "acre", (prior, "next"), "zoe"), [(node, expected)])
        # By "never" the void sale is shown all the same, and makes no base.
        node = (("fay", "fay", ()), ())
        for prior in ("drawn", "entered", "innocent", "both"):
            self.assertEqual(healers(case, "acre", (prior, "never"), "zoe"), [(node, ("fay",))])

    def test_the_base_that_is_not_shown(self):
        # The void sale of fay to xan is shown; fay stays the base, and is not shown any more.
        papers = (("sale", "fay", "xan", ("acre",), 1, 2), ("sale", "fay", "gil", ("acre",), 3, None))
        case = Case((FIRST, papers), {0: "void"}, (), 0)
        node = (("gil", "fay", ()), ())
        for prior, expected in (("innocent", ("gil",)), ("drawn", ("gil",))):
            self.assertEqual(healers(case, "acre", (prior, "never"), "zoe"), [(node, expected)])
        self.assertEqual(healers(case, "acre", ("both", "never"), "zoe")[0][1], ("gil",))
        self.assertEqual(healers(case, "acre", ("entered", "never"), "zoe")[0][1], ("fay", "gil"))

    def test_a_title_that_is_sure(self):
        case = Case(SMALL, {}, (), 0)
        self.assertEqual(least_healing(case, "acre", RULE, "bea", []), [()])
        self.assertEqual(least_healing(case, "acre", RULE, "bea", ["bea", "xan"]), [()])
        self.assertIs(heals(case, "acre", RULE, "bea", []), True)
        self.assertEqual(healers(case, "acre", RULE, "bea"), [((("bea", "bea", ()), ()), None)])

    def test_no_papers(self):
        case = Case(BARE, {}, (), None)
        self.assertEqual(healers(case, "acre", RULE, "zoe"), [((("fay", "fay", ()), ()), ("fay",))])
        self.assertEqual(least_healing(case, "acre", RULE, "zoe", []), [("fay",)])
        self.assertEqual(least_healing(case, "acre", RULE, "zoe", ["fay", "fay", "gil"]), [])
        self.assertEqual(least_healing(case, "acre", RULE, "fay", []), [()])

    def assert_heals(self, arguments, plot, rule):
        case = Case(*arguments)
        people = names(arguments[0])
        for name in ("ann", "bob", "zoe"):
            lots = [some for _, some in healers(case, plot, rule, name) if some is not None]
            fine = []
            for some in subsets(people):
                expected = told_heals(arguments, plot, rule, name, some)
                self.assertIs(heals(case, plot, rule, name, some), expected)
                self.assertIs(heals(case, plot, rule, name, [*some[::-1], "nobody", *some]), expected)
                # A lot of signers heals exactly if it meets, for each ending, the names that heal it.
                self.assertIs(all(set(some) & set(lot) for lot in lots), expected)
                if expected:
                    fine.append(some)
            for barred in ([], ["ann"], ["bob", "zoe", "bob"], ["cid", "dan"]):
                before = list(barred)
                some = [one for one in fine if not set(one) & {name, *barred}]
                least = [tuple(one) for one in some if not any(set(other) < set(one) for other in some)]
                self.assertEqual(least_healing(case, plot, rule, name, barred), sorted(least))
                self.assertEqual(barred, before)

    def test_made_cases(self):
        for arguments, plot, rule in asked(15, 5):
            self.assert_heals(arguments, plot, rule)

    def test_papers_that_hang_together(self):
        for arguments, plot, rule in lively(70, 6, 15):
            self.assert_heals(arguments, plot, rule)

    def test_each_alone_heals_its_ending(self):
        for arguments, plot, rule in lively(60, 6, 16):
            case = Case(*arguments)
            graph = Graph(case, plot, rule)
            last = graph.places() - 1
            ended = {}
            for truth in case.truths():
                ended.setdefault(graph.walk(truth)[-1], []).append(truth)
            for name in ("ann", "cid", "zoe"):
                found = healers(case, plot, rule, name)
                self.assertEqual([node for node, _ in found], graph.nodes(last))
                for node, some in found:
                    if node[0][0] == name:
                        self.assertIs(some, None)
                        continue
                    expected = []
                    for one in names(arguments[0]):
                        roll = told_signed(arguments[0], plot, name, [one])
                        ends = {told_states(roll, plot, rule, truth)[-1][0] for truth in ended[node]}
                        self.assertEqual(len(ends), 1)
                        if one != name and ends == {name}:
                            expected.append(one)
                    self.assertEqual(some, tuple(expected))


class Forty(unittest.TestCase):
    def test_as_if_the_papers_were_put_behind(self):
        for seed, known, groups, most in (
            (0, {}, (), None), (1, {7: "void"}, ((3, 4), (20, 25)), None), (2, {}, (), 4),
        ):
            roll = long_roll(seed, ("sale", "sale", "loan"))
            case = Case(roll, known, groups, most)
            people = names(roll)
            for rule in RULES[seed + 1::5]:
                holders = possible(case, "acre", rule)
                for name, some in ((people[0], people[1:]), (people[1], people[2:4]), ("zoe", holders)):
                    longer = signed(roll, "acre", name, some)
                    sound = {number: "sound" for number in range(40, len(longer[1]))}
                    expected = is_sure(Case(longer, {**known, **sound}, groups, most), "acre", rule, name)
                    self.assertIs(heals(case, "acre", rule, name, some), expected)

    def test_least_lots(self):
        for seed in (3, 4):
            case = Case(long_roll(seed), {}, (), None)
            people = names(case.roll())
            for rule in RULES[seed::4]:
                for name in (people[-1], "zoe"):
                    found = least_healing(case, "acre", rule, name, [])
                    lots = [set(some) for _, some in healers(case, "acre", rule, name) if some is not None]
                    fine = [set(some) for some in subsets(people) if all(set(some) & lot for lot in lots)]
                    least = [one for one in fine if name not in one and not any(other < one for other in fine)]
                    self.assertEqual(found, sorted(tuple(sorted(one)) for one in least))


if __name__ == "__main__":
    unittest.main()
