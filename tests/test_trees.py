"""[71], with [10]; [3] and [4] as far as they speak of it."""

import unittest

from samples import BARE, RULE, SMALL, asked, lively, odd_values, spoiled, told_doubts, told_holders
from soundtitle.cases import Case
from soundtitle.errors import NoTruth
from soundtitle.looks import looks_needed
from soundtitle.lots import agrees
from soundtitle.numbers import holders_many
from soundtitle.trees import best_tree, depth, is_tree, lots_of, told_by
from soundtitle.warrants import is_warrant

CASE = Case(SMALL, {}, (), None)
TREE = ("look", 1, ("knows", "bea"), ("look", 0, ("knows", "xan"), ("knows", "fay")))


def all_trees(holders, heads):
    """All trees of a Case, holders being the dict from its truths that have the words found, heads those not found."""
    found = []
    if len(set(holders.values())) == 1:
        found.append(("knows", *set(holders.values())))
    for head in heads:
        left = [other for other in heads if other != head]
        sides = [{truth: holders[truth] for truth in holders if (head in truth) == void} for void in (False, True)]
        ones = all_trees(sides[0], left)
        others = all_trees(sides[1], left) if sides[1] else [None]
        found.extend(("look", head, one, other) for one in ones for other in others)
    return found


def is_told_tree(case, plot, rule, thing):
    """Whether a thing is a tree of a Case, by the words of [71] once more, with found."""
    if not isinstance(thing, tuple) or not thing:
        return False
    if thing[0] == "knows":
        return len(thing) == 2 and list(holders_many(case, plot, rule)) == [thing[1]]
    if thing[0] != "look" or len(thing) != 4 or type(thing[1]) is not int:
        return False
    _, head, one, other = thing
    if head not in [doubt[0] for doubt in case.doubts()]:
        return False
    if not is_told_tree(case.found(head, "sound"), plot, rule, one):
        return False
    if case.most() == 0:
        return other is None
    return is_told_tree(case.found(head, "void"), plot, rule, other)


class Small(unittest.TestCase):
    def test_the_example_of_the_document(self):
        self.assertEqual(lots_of(TREE), [((0, "sound"), (1, "void")), ((0, "void"), (1, "void")), ((1, "sound"),)])

    def test_the_roll_of_the_document(self):
        self.assertIs(is_tree(CASE, "acre", RULE, TREE), True)
        self.assertEqual(depth(TREE), 2)
        self.assertEqual([told_by(TREE, CASE, truth) for truth in ((), (0,), (1,), (0, 1))], [
            ("bea", [1]), ("bea", [1]), ("xan", [1, 0]), ("fay", [1, 0]),
        ])
        tree = best_tree(CASE, "acre", RULE)
        self.assertEqual([is_tree(CASE, "acre", RULE, tree), depth(tree)], [True, 2])

    def test_settled(self):
        for case in (CASE.found(1, "sound"), Case(SMALL, {}, (), 0)):
            self.assertEqual(best_tree(case, "acre", RULE), ("knows", "bea"))
            self.assertIs(is_tree(case, "acre", RULE, ("knows", "bea")), True)
            self.assertIs(is_tree(case, "acre", RULE, ("knows", "fay")), False)
            self.assertEqual(told_by(("knows", "bea"), case, ()), ("bea", []))
        self.assertEqual([depth(("knows", "bea")), lots_of(("knows", "bea"))], [0, [()]])
        self.assertEqual(best_tree(Case(BARE, {}, (), None), "acre", RULE), ("knows", "fay"))

    def test_a_look_more_than_is_needed(self):
        case = CASE.found(1, "sound")
        self.assertIs(is_tree(case, "acre", RULE, ("look", 0, ("knows", "bea"), ("knows", "bea"))), True)
        # The word was found: it is the head of no doubt any more.
        self.assertIs(is_tree(case, "acre", RULE, ("look", 1, ("knows", "bea"), None)), False)
        twice = ("look", 0, ("look", 0, ("knows", "bea"), None), ("knows", "bea"))
        self.assertIs(is_tree(case, "acre", RULE, twice), False)

    def test_none_just_if_no_truth_has_it_void(self):
        case = Case(SMALL, {}, (), 1)
        tree = ("look", 0, ("look", 1, ("knows", "bea"), ("knows", "xan")), ("look", 1, ("knows", "bea"), None))
        self.assertIs(is_tree(case, "acre", RULE, tree), True)
        self.assertIs(is_tree(case, "acre", RULE, tree[:3] + (("knows", "bea"),)), True)
        self.assertIs(is_tree(case, "acre", RULE, tree[:3] + (None,)), False)
        wrong = ("look", 1, ("knows", "bea"), ("knows", "bea"))
        self.assertIs(is_tree(case, "acre", RULE, tree[:3] + (wrong,)), False)
        self.assertIs(is_tree(CASE, "acre", RULE, tree), False)
        self.assertEqual(depth(tree), 2)
        self.assertEqual(lots_of(tree), [
            ((0, "sound"), (1, "sound")), ((0, "sound"), (1, "void")), ((0, "void"), (1, "sound")),
        ])
        self.assertEqual(told_by(tree, case, (0,)), ("bea", [0, 1]))

    def test_all_trees(self):
        seen = 0
        for arguments, plot, rule in lively(60, 3, 6) + asked(10, 2):
            case, holders = Case(*arguments), told_holders(arguments, plot, rule)
            some = all_trees(holders, [doubt[0] for doubt in told_doubts(*arguments[:3])])
            seen += len(some)
            self.assertEqual(min(map(depth, some)), looks_needed(case, plot, rule))
            self.assertIn(best_tree(case, plot, rule), some)
            for tree in some:
                self.assertIs(is_tree(case, plot, rule, tree), True)
                ways = {truth: told_by(tree, case, truth) for truth in holders}
                self.assertEqual({truth: way[0] for truth, way in ways.items()}, holders)
                self.assertEqual(max(len(way[1]) for way in ways.values()), depth(tree))
                lots = {tuple(sorted((h, "void" if h in t else "sound") for h in way[1])) for t, way in ways.items()}
                self.assertEqual(lots_of(tree), sorted(lots))
        self.assertGreater(seen, 500)

    def test_the_lots_of_a_tree_are_warrants_that_part_the_truths(self):
        for arguments, plot, rule in lively(40, 6, 7):
            case, holders = Case(*arguments), told_holders(arguments, plot, rule)
            tree = best_tree(case, plot, rule)
            self.assertIs(is_tree(case, plot, rule, tree), True)
            self.assertEqual(depth(tree), looks_needed(case, plot, rule))
            lots = lots_of(tree)
            for truth, name in holders.items():
                some = [lot for lot in lots if agrees(case, lot, truth)]
                self.assertEqual(len(some), 1)
                self.assertIs(is_warrant(case, plot, rule, name, some[0]), True)


class AnyValue(unittest.TestCase):
    def test_any_value(self):
        for case in (CASE, Case(SMALL, {}, (), 1), CASE.found(0, "void"), CASE.found(1, "sound")):
            things = odd_values() + [TREE]
            for tree in (TREE, best_tree(case, "acre", RULE), ("look", 0, TREE, None), ("knows", "bea")):
                things.append(tree)
                things.extend(spoiled(tree))
            for thing in things:
                expected = is_told_tree(case, "acre", RULE, thing)
                self.assertIs(is_tree(case, "acre", RULE, thing), expected, thing)

    def test_true_is_not_one(self):
        self.assertIs(is_tree(CASE, "acre", RULE, ("look", True) + TREE[2:]), False)
        part = ("look", False, ("knows", "xan"), ("knows", "fay"))
        self.assertIs(is_tree(CASE, "acre", RULE, TREE[:3] + (part,)), False)
        for thing in (list(TREE), TREE + (None,), ("look", 1), ("knows",), ("knows", "xan", "bea"), ("knows", ["bea"])):
            self.assertIs(is_tree(CASE, "acre", RULE, thing), False)

    def test_any_value_that_is_no_truth_is_refused(self):
        case = Case(SMALL, {}, (), 1)
        tree = best_tree(case, "acre", RULE)
        for thing in odd_values() + [(0, 1), (True,), (2,), [0]]:
            if repr(thing) not in ("()", "(0,)", "(1,)"):
                with self.assertRaises(NoTruth) as caught:
                    told_by(tree, case, thing)
                self.assertIs(caught.exception.truth, thing)

    def test_what_is_returned_may_be_changed(self):
        told_by(TREE, CASE, ())[1].clear()
        lots_of(TREE).clear()
        self.assertEqual(told_by(TREE, CASE, ()), ("bea", [1]))
        self.assertEqual(len(lots_of(TREE)), 3)


if __name__ == "__main__":
    unittest.main()
