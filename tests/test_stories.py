"""[82], with [11] and [32]; [3] and [4] as far as they speak of them."""

import copy
import itertools
import unittest

from samples import (
    BARE, FORGED, LATER, RULE, RULES, SMALL, WIDE, made_rolls, odd_values, spoiled, told_states, told_truths,
)
from soundtitle.forms import is_roll
from soundtitle.rolls import plots
from soundtitle.rules import doctrine_of, doctrines
from soundtitle.stories import doctrine_by, fewest_papers, is_story, story

PEOPLE = ("ann", "bob", "cid")
PAIRS = list(itertools.product(RULES, repeat=2))


def are_alike(one, other):
    return one == other or one[0] == other[0] == "drawn"


def told_holder(roll, rule, truth):
    return told_states(roll, roll[0][0][0], rule, truth)[-1][0]


def one_paper_stories():
    """All stories of one paper, but for other names and days, with what the rules tell in them."""
    papers = []
    for one, other in itertools.permutations(PEOPLE, 2):
        for entered in (None, 0, 1):
            papers.append(("sale", one, other, ("acre",), 0, entered))
            papers.append(("loan", one, other, "acre", 5, 0, entered))
    for paper in papers:
        roll = ((("acre", "ann"),), (paper,))
        for truth in ((), (0,)):
            yield roll, truth, {rule: told_holder(roll, rule, truth) for rule in RULES}


class Stories(unittest.TestCase):
    def test_all_pairs_of_rules(self):
        short = list(one_paper_stories())
        for one, other in PAIRS:
            found = story(one, other)
            if are_alike(one, other):
                self.assertIs(found, None)
                self.assertIs(fewest_papers(one, other), None)
                continue
            roll, truth = found
            self.assertTrue(is_roll(roll))
            self.assertEqual(len(plots(roll)), 1)
            self.assertIn(truth, told_truths(roll, {}, (), None))
            self.assertNotEqual(told_holder(roll, one, truth), told_holder(roll, other, truth))
            self.assertIs(is_story(one, other, found), True)
            self.assertEqual(fewest_papers(one, other), len(roll[1]))
            self.assertIn(len(roll[1]), (1, 2))
            # Without papers nobody but the first holder is told; by one paper just these part.
            parted = any(told[one] != told[other] for _, _, told in short)
            self.assertEqual(len(roll[1]) == 1, parted)

    def test_some_pairs(self):
        self.assertEqual(fewest_papers(("entered", "once"), ("entered", "next")), 1)
        self.assertEqual(fewest_papers(("both", "once"), ("drawn", "once")), 1)
        self.assertEqual(fewest_papers(("both", "once"), ("entered", "once")), 2)
        self.assertEqual(fewest_papers(("both", "next"), ("both", "never")), 2)
        self.assertEqual(fewest_papers(("innocent", "never"), ("drawn", "next")), 2)
        self.assertIs(fewest_papers(("drawn", "never"), ("drawn", "once")), None)

    def test_rules_of_one_doctrine_tell_the_same_holders(self):
        for roll in made_rolls(25):
            for truth in told_truths(roll, {}, (), None)[::3]:
                for plot in plots(roll):
                    ends = {told_states(roll, plot, rule, truth)[-1][0] for rule in RULES if rule[0] == "drawn"}
                    self.assertEqual(len(ends), 1)


class IsStory(unittest.TestCase):
    def test_stories_and_what_is_none(self):
        self.assertIs(is_story(RULE, ("drawn", "never"), (SMALL, (0,))), True)
        self.assertIs(is_story(RULE, ("drawn", "never"), (SMALL, ())), False)
        self.assertIs(is_story(RULE, RULE, (SMALL, (0,))), False)
        self.assertIs(is_story(RULE, ("drawn", "never"), (BARE, ())), False)
        self.assertIs(is_story(RULE, ("drawn", "never"), (SMALL, (2,))), False)
        # Papers that do not matter, behind and ahead, may stand in it.
        longer = (SMALL[0], SMALL[1] + (("loan", "bea", "len", "acre", 5, 9, None), ("release", "len", 2, 10)))
        self.assertIs(is_story(RULE, ("drawn", "never"), (longer, (0, 3))), True)

    def test_a_roll_of_several_plots_is_none(self):
        roll = ((("acre", "fay"), ("moor", "gil")), SMALL[1])
        self.assertIs(is_story(RULE, ("drawn", "never"), (roll, (0,))), False)
        self.assertIs(is_story(("both", "once"), ("drawn", "never"), (WIDE, (1,))), False)

    def test_any_value(self):
        one, other = RULE, ("drawn", "never")
        for thing in odd_values():
            self.assertIs(is_story(one, other, thing), False)
            self.assertIs(is_story(one, other, (thing, (0,))), repr(thing) == repr(SMALL))
            self.assertIs(is_story(one, other, (SMALL, thing)), repr(thing) == "(0,)")
        fine = (SMALL, (0,))
        for thing in spoiled(fine):
            expected = self.is_fine(thing, one, other)
            self.assertIs(is_story(one, other, thing), expected)

    def is_fine(self, thing, one, other):
        if not isinstance(thing, tuple) or len(thing) != 2 or not is_roll(thing[0]) or len(thing[0][0]) != 1:
            return False
        truths = told_truths(thing[0], {}, (), None)
        if repr(thing[1]) not in [repr(truth) for truth in truths]:
            return False
        return told_holder(thing[0], one, thing[1]) != told_holder(thing[0], other, thing[1])

    def test_true_is_not_one(self):
        roll = (SMALL[0], (FORGED, LATER))
        self.assertIs(is_story(RULE, ("drawn", "never"), (roll, (False,))), False)
        papers = (FORGED, LATER[:4] + (True, 6))
        self.assertIs(is_story(RULE, ("drawn", "never"), ((SMALL[0], papers), (0,))), False)


class DoctrineBy(unittest.TestCase):
    def test_nothing_told(self):
        self.assertEqual(doctrine_by([]), doctrines())

    def test_the_roll_of_the_document(self):
        told = ["fay", "bea", "bea", "fay", "fay", "bea", "bea", "fay", "bea", "bea"]
        for name in ("fay", "bea", "xan"):
            expected = [rule for rule, one in zip(doctrines(), told) if one == name]
            self.assertEqual(doctrine_by([((SMALL, (0,)), name)]), expected)
        self.assertEqual(doctrine_by([((SMALL, (0,)), "fay"), ((SMALL, (0,)), "bea")]), [])

    def test_stories_tell_each_doctrine(self):
        stories = {story(one, other) for one, other in PAIRS if not are_alike(one, other)}
        for rule in RULES:
            told = [(found, told_holder(found[0], rule, found[1])) for found in sorted(stories, key=repr)]
            before = copy.deepcopy(told)
            self.assertEqual(doctrine_by(told), [doctrine_of(rule)])
            self.assertEqual(told, before)
            for at in range(len(told)):
                expected = [
                    other for other in doctrines()
                    if all(told_holder(one[0], other, one[1]) == name for one, name in told[:at])
                ]
                self.assertEqual(doctrine_by(told[:at]), expected)

    def test_what_is_returned_may_be_changed(self):
        doctrine_by([]).clear()
        self.assertEqual(len(doctrine_by([])), 10)


if __name__ == "__main__":
    unittest.main()
