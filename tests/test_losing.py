"""[65]; [3] and [4] as far as they speak of it."""

import random
import unittest

from samples import BARE, RULE, SMALL, asked, lively, lively_roll, told_holders
from soundtitle.cases import Case
from soundtitle.losing import brought_back, least_losing, losing

CASE = Case(SMALL, {}, (), None)
PEOPLE = ["ann", "bob", "cid", "dan", "zoe"]


def told_least(truths):
    """Those of some truths of which no lesser part is one of them."""
    return [truth for truth in truths if not any(set(other) < set(truth) for other in truths)]


class Small(unittest.TestCase):
    def test_the_example_of_the_document(self):
        self.assertEqual(least_losing(CASE, "acre", RULE, "xan"), [()])
        self.assertEqual(brought_back(CASE, "acre", RULE, "xan"), [((), (1,))])

    def test_the_roll_of_the_document(self):
        self.assertEqual(losing(CASE, "acre", RULE, "bea"), [(0, 1), (1,)])
        self.assertEqual(least_losing(CASE, "acre", RULE, "bea"), [(1,)])
        self.assertEqual(brought_back(CASE, "acre", RULE, "bea"), [])
        self.assertEqual(losing(CASE, "acre", RULE, "zoe"), [(), (0,), (0, 1), (1,)])
        self.assertEqual(least_losing(CASE, "acre", RULE, "zoe"), [()])
        self.assertEqual(brought_back(CASE, "acre", RULE, "zoe"), [])
        self.assertEqual(losing(CASE.found(1, "sound"), "acre", RULE, "bea"), [])
        self.assertEqual(least_losing(CASE.found(1, "sound"), "acre", RULE, "bea"), [])

    def test_a_part_need_not_be_a_truth_of_the_case(self):
        # Without the void paper that is known a part is none of the Case: it is not losing.
        case = Case(SMALL, {0: "void"}, (), None)
        self.assertEqual(least_losing(case, "acre", RULE, "bea"), [(0, 1)])
        self.assertEqual(brought_back(case, "acre", RULE, "fay"), [((0,), (0, 1))])
        case = Case(SMALL, {}, ((0, 1),), None)
        self.assertEqual(least_losing(case, "acre", RULE, "bea"), [(0, 1)])

    def test_several_ways_back(self):
        sales = (("sale", "fay", "gil", ("acre",), 1, 1), ("sale", "gil", "bea", ("acre",), 2, 2),
                 ("sale", "bea", "fay", ("acre",), 3, 3), ("sale", "fay", "len", ("acre",), 4, 4))
        case = Case((SMALL[0], sales), {}, (), None)
        self.assertEqual(least_losing(case, "acre", ("drawn", "never"), "fay"), [()])
        self.assertEqual(brought_back(case, "acre", ("drawn", "never"), "fay"), [((), (3,))])
        self.assertEqual(brought_back(case, "acre", ("drawn", "never"), "bea"), [((), (2,))])
        case = Case((SMALL[0], sales[:3]), {}, (), 2)
        self.assertEqual(least_losing(case, "acre", ("drawn", "never"), "fay"), [(1,), (2,)])
        self.assertEqual(brought_back(case, "acre", ("drawn", "never"), "fay"), [((1,), (0, 1)), ((2,), (0, 2))])
        case = Case((SMALL[0], sales[:2]), {}, (), None)
        self.assertEqual(brought_back(case, "acre", ("drawn", "never"), "fay"), [((), (0,))])

    def test_no_papers(self):
        case = Case(BARE, {}, (), None)
        self.assertEqual([losing(case, "acre", RULE, name) for name in ("fay", "zoe")], [[], [()]])
        self.assertEqual([least_losing(case, "acre", RULE, name) for name in ("fay", "zoe")], [[], [()]])
        self.assertEqual([brought_back(case, "acre", RULE, name) for name in ("fay", "zoe")], [[], []])

    def assert_losing(self, arguments, plot, rule):
        case, holders = Case(*arguments), told_holders(arguments, plot, rule)
        many = 0
        for name in PEOPLE:
            expected = [truth for truth in holders if holders[truth] != name]
            self.assertEqual(losing(case, plot, rule, name), expected)
            least = told_least(expected)
            self.assertEqual(least_losing(case, plot, rule, name), least)
            back = []
            for one in least:
                above = [truth for truth in holders if holders[truth] == name and set(one) <= set(truth)]
                back.extend((one, other) for other in told_least(above))
            self.assertEqual(brought_back(case, plot, rule, name), sorted(back))
            many += len(back)
        return many

    def test_made_cases(self):
        for arguments, plot, rule in asked(60, 6):
            self.assert_losing(arguments, plot, rule)

    def test_papers_that_hang_together(self):
        back = [self.assert_losing(*one) for one in lively(80, 6)]
        self.assertGreater(sum(back), 40)

    def test_ten_doubts(self):
        case = Case(lively_roll(random.Random(5), 10), {}, (), None)
        for name in ("ann", "bob"):
            lost = losing(case, "acre", RULE, name)
            some = least_losing(case, "acre", RULE, name)
            self.assertEqual(some, told_least(some))
            self.assertTrue(all(any(set(one) <= set(truth) for one in some) for truth in lost))
            self.assertTrue(set(some) <= set(lost))
            held = set(case.truths()) - set(lost)
            for one, other in brought_back(case, "acre", RULE, name):
                self.assertTrue(one in some and other in held and set(one) < set(other))


if __name__ == "__main__":
    unittest.main()
