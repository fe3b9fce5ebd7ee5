"""[61], with [9]; [3] and [4] as far as they speak of it."""

import unittest

from samples import (
    BARE, RULE, RULES, SMALL, WIDE, asked, lively, long_roll, odd_values, shuffled, told_doubts, told_holders,
    told_states, told_voids,
)
from soundtitle.cases import Case
from soundtitle.errors import NoHead, NoPlot
from soundtitle.fewest import by_word, fewest, least_against, least_truth
from soundtitle.numbers import holders_many, numbers
from soundtitle.walks import holder

CASE = Case(SMALL, {}, (), None)


class Small(unittest.TestCase):
    def test_the_example_of_the_document(self):
        self.assertEqual(list(fewest(CASE, "acre", RULE).items()), [("bea", 0), ("fay", 2), ("xan", 1)])
        self.assertEqual(least_against(CASE, "acre", RULE, "bea"), (1,))

    def test_the_roll_of_the_document(self):
        self.assertEqual(
            [least_truth(CASE, "acre", RULE, name) for name in ("bea", "fay", "xan", "zoe")], [(), (0, 1), (1,), None]
        )
        self.assertEqual([least_against(CASE, "acre", RULE, name) for name in ("fay", "xan", "zoe")], [(), (), ()])
        self.assertIs(least_against(Case(SMALL, {}, (), 0), "acre", RULE, "bea"), None)
        self.assertIs(least_truth(Case(SMALL, {}, (), 1), "acre", RULE, "fay"), None)
        self.assertEqual([by_word(CASE, "acre", RULE, 0, name) for name in ("bea", "fay", "xan", "zoe")], [
            (1, 1), (0, 1), (1, 0), (0, 0),
        ])
        self.assertEqual(by_word(CASE, "acre", RULE, 1, "bea"), (2, 0))

    def test_a_group_is_void_as_a_whole(self):
        case = Case(SMALL, {}, ((0, 1),), None)
        self.assertEqual(fewest(case, "acre", RULE), {"bea": 0, "fay": 1})
        self.assertEqual(least_truth(case, "acre", RULE, "fay"), (0, 1))
        self.assertEqual(by_word(case, "acre", RULE, 0, "fay"), (0, 1))

    def test_what_is_known_to_be_void_is_told_and_not_counted(self):
        case = Case(SMALL, {0: "void"}, (), None)
        self.assertEqual(fewest(case, "acre", RULE), {"bea": 0, "fay": 1})
        self.assertEqual(least_truth(case, "acre", RULE, "bea"), (0,))
        self.assertEqual(least_against(case, "acre", RULE, "bea"), (0, 1))

    def test_no_papers(self):
        case = Case(BARE, {}, (), None)
        self.assertEqual(fewest(case, "acre", RULE), {"fay": 0})
        self.assertEqual([least_truth(case, "acre", RULE, name) for name in ("fay", "zoe")], [(), None])
        self.assertEqual([least_against(case, "acre", RULE, name) for name in ("fay", "zoe")], [None, ()])
        with self.assertRaises(NoHead):
            by_word(case, "acre", RULE, 0, "fay")

    def test_made_cases(self):
        for arguments, plot, rule in asked(60) + lively(60, 7):
            case, holders = Case(*arguments), told_holders(arguments, plot, rule)
            voids = {truth: len(told_voids(arguments, truth)) for truth in holders}
            expected = {
                name: min(voids[truth] for truth in holders if holders[truth] == name)
                for name in sorted(set(holders.values()))
            }
            self.assertEqual(list(fewest(case, plot, rule).items()), list(expected.items()))
            for name in ("ann", "bob", "cid", "dan", "zoe"):
                self.assert_least(least_truth(case, plot, rule, name), holders, voids, lambda one: one == name)
                self.assert_least(least_against(case, plot, rule, name), holders, voids, lambda one: one != name)
                for doubt in told_doubts(*arguments[:3]):
                    words = [doubt[0] in truth for truth in holders if holders[truth] == name]
                    found = by_word(case, plot, rule, doubt[0], name)
                    self.assertEqual(found, (words.count(False), words.count(True)))

    def assert_least(self, truth, holders, voids, is_wanted):
        some = [one for one in holders if is_wanted(holders[one])]
        if some:
            self.assertIn(truth, some)
            self.assertEqual(voids[truth], min(voids[one] for one in some))
        else:
            self.assertIs(truth, None)


class Forty(unittest.TestCase):
    def test_least_truths(self):
        for seed, known, groups, most in (
            (0, {}, (), None), (1, {4: "void", 9: "sound"}, ((2, 7), (11, 30)), None), (2, {}, ((5, 6, 7),), 6),
        ):
            roll = long_roll(seed, ("sale", "sale", "sale", "loan"))
            self.assert_least(roll, Case(roll, known, groups, most), RULES[seed::3])

    def test_numbers_that_do_not_go_with_days(self):
        for seed in range(5):
            roll = shuffled(long_roll(seed), seed)
            self.assert_least(roll, Case(roll, {}, (), None), RULES[seed::3])
            roll = shuffled(long_roll(seed + 20, ("sale", "sale", "loan")), seed)
            known = {number: "sound" for number in range(3, 40, 4)}
            self.assert_least(roll, Case(roll, known, (), 9), RULES[seed::2])

    def assert_least(self, roll, case, some):
        for rule in some:
            least = {}
            for name, many in numbers(case, "acre", rule):
                least.setdefault(name, many)
            self.assertEqual(list(fewest(case, "acre", rule).items()), list(least.items()))
            for name, many in least.items():
                truth = least_truth(case, "acre", rule, name)
                self.assertEqual([case.voids(truth), holder(roll, "acre", rule, truth)], [many, name])
                elsewhere = [least[other] for other in least if other != name]
                truth = least_against(case, "acre", rule, name)
                if elsewhere:
                    self.assertEqual(case.voids(truth), min(elsewhere))
                    self.assertNotEqual(holder(roll, "acre", rule, truth), name)
                else:
                    self.assertIs(truth, None)

    def test_two_void_papers_at_most(self):
        roll = long_roll(3)
        case = Case(roll, {}, (), 2)
        for rule in (("entered", "never"), ("both", "once")):
            holders = {truth: told_states(roll, "acre", rule, truth)[-1][0] for truth in case.truths()}
            for head in (0, 13, 39):
                for name in ("ann", "bob", "cid"):
                    words = [head in truth for truth in holders if holders[truth] == name]
                    self.assertEqual(by_word(case, "acre", rule, head, name), (words.count(False), words.count(True)))

    def test_by_word_as_if_it_were_found(self):
        for most in (None, 8):
            case = Case(long_roll(4), {}, ((12, 19),), most)
            for rule in (("drawn", "never"), ("innocent", "once")):
                for head in (0, 7, 12, 39):
                    one = holders_many(case.found(head, "sound"), "acre", rule)
                    other = holders_many(case.found(head, "void"), "acre", rule)
                    for name in ("ann", "bob", "cid", "dan", "zoe"):
                        found = by_word(case, "acre", rule, head, name)
                        self.assertEqual(found, (one.get(name, 0), other.get(name, 0)))


class Refused(unittest.TestCase):
    def test_what_is_no_head(self):
        case = Case(WIDE, {1: "void"}, ((3, 5), (0, 2, 7)), None)
        for thing in odd_values() + [2, 5, 7, 8]:
            if isinstance(thing, bool) or not isinstance(thing, int) or thing not in (0, 3, 4, 6):
                with self.assertRaises(NoHead) as caught:
                    by_word(case, "moor", RULE, thing, "gil")
                self.assertIs(caught.exception.head, thing)
                with self.assertRaises(NoPlot):
                    by_word(case, "glen", RULE, thing, "gil")
        for head in (0, 3, 4, 6):
            found = [by_word(case, "moor", RULE, head, name) for name in ("bea", "gil", "xan")]
            self.assertEqual(sum(one + other for one, other in found), 16)

    def test_heads_and_names_by_turns(self):
        pairs = [(head, name) for head in (0, 1) for name in ("bea", "fay", "xan")]
        found = [by_word(CASE, "acre", RULE, head, name) for head, name in pairs]
        self.assertEqual(found[::-1], [by_word(CASE, "acre", RULE, head, name) for head, name in pairs[::-1]])
        self.assertEqual(by_word(CASE, "acre", ("drawn", "never"), 0, "fay"), (0, 2))
        self.assertEqual(found, [by_word(Case(SMALL, {}, (), None), "acre", RULE, head, name) for head, name in pairs])


if __name__ == "__main__":
    unittest.main()
