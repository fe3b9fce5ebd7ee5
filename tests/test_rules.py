"""[32], with [6] (what a rule is) and [11]; [3] as far as it speaks of them."""

import itertools
import unittest

from samples import RULES, made_rolls, told_truths
from soundtitle.forms import is_roll, is_rule
from soundtitle.rolls import plots
from soundtitle.rules import doctrine_of, doctrines, rules, same_doctrine
from soundtitle.walks import holder

# Pairs of days on which a paper is drawn and entered: enough to put the moments of two papers in any order.
DAYS = [(0, 2), (0, 6), (0, None), (1, 1), (1, 3), (3, 3), (3, 5), (4, 7), (5, 5), (5, None)]


def small_stories():
    """Rolls of one or two sales of a plot, each with each of its truths."""
    sales = [
        ("sale", one, other, ("acre",), drawn, entered)
        for one, other in (("ann", "bob"), ("ann", "cid"), ("bob", "cid"), ("bob", "ann"))
        for drawn, entered in DAYS
    ]
    for many in (1, 2):
        for papers in itertools.product(sales, repeat=many):
            for truth in told_truths(((), papers), {}, (), None):
                yield ((("acre", "ann"),), papers), truth


class Rules(unittest.TestCase):
    def test_the_twelve_rules(self):
        self.assertEqual(rules(), RULES)
        self.assertEqual(rules(), sorted(rules()))
        self.assertTrue(all(is_rule(rule) for rule in rules()))

    def test_the_ten_doctrines(self):
        self.assertEqual(doctrines(), [
            ("both", "never"), ("both", "next"), ("both", "once"), ("drawn", "never"),
            ("entered", "never"), ("entered", "next"), ("entered", "once"),
            ("innocent", "never"), ("innocent", "next"), ("innocent", "once"),
        ])

    def test_rules_of_the_same_doctrine(self):
        for one in RULES:
            for other in RULES:
                expected = one == other or (one[0] == "drawn" and other[0] == "drawn")
                self.assertIs(same_doctrine(one, other), expected, (one, other))

    def test_the_least_rule_of_a_doctrine(self):
        for rule in RULES:
            self.assertEqual(doctrine_of(rule), ("drawn", "never") if rule[0] == "drawn" else rule)
        self.assertEqual(doctrine_of(("drawn", "once")), ("drawn", "never"))

    def test_what_is_returned_is_new(self):
        rules().clear()
        doctrines().append(None)
        self.assertEqual([len(rules()), len(doctrines())], [12, 10])


class Doctrines(unittest.TestCase):
    def test_rules_of_different_doctrines_part_in_a_story_of_one_paper_or_two(self):
        left = [pair for pair in itertools.combinations(RULES, 2) if not same_doctrine(*pair)]
        self.assertEqual(len(left), 63)
        for roll, truth in small_stories():
            told = {rule: holder(roll, "acre", rule, truth) for rule in RULES}
            left = [(one, other) for one, other in left if told[one] == told[other]]
            if not left:
                break
        self.assertEqual(left, [])
        self.assertTrue(is_roll(roll))

    def test_rules_of_the_same_doctrine_tell_the_same_holders(self):
        drawn = [rule for rule in RULES if rule[0] == "drawn"]
        for roll in made_rolls(60):
            for truth in told_truths(roll, {}, (), None):
                for plot in plots(roll):
                    self.assertEqual(len({holder(roll, plot, rule, truth) for rule in drawn}), 1)


if __name__ == "__main__":
    unittest.main()
