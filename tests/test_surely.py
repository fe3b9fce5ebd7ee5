"""[60], with [9]; [3] and [4] as far as they speak of it."""

import unittest

from samples import BARE, RULE, RULES, SMALL, asked, lively, long_roll, told_holders, told_states, told_voids
from soundtitle.cases import Case
from soundtitle.graph import Graph
from soundtitle.numbers import numbers
from soundtitle.surely import is_sure, possible, sure_up_to

CASE = Case(SMALL, {}, (), None)
PEOPLE = ["ann", "bob", "cid", "dan", "zoe"]


def told_up_to(name, rows):
    """rows being the tuples (holder, number of void doubts) of all truths."""
    elsewhere = [many for holder, many in rows if holder != name]
    return min(elsewhere) - 1 if elsewhere else None


def least_elsewhere(case, plot, rule, name):
    """The fewest void words on a walk of the graph from the beginning to an end at which a name does not hold."""
    graph = Graph(case, plot, rule)
    least = {node: 0 for node in graph.nodes(0)}
    for place in range(graph.places() - 1):
        behind = {}
        for node, word, other in graph.steps(place):
            many = least[node] + (word == "void")
            behind[other] = min(many, behind.get(other, many))
        least = behind
    return min([many for (state, _), many in least.items() if state[0] != name], default=None)


class Small(unittest.TestCase):
    def test_the_roll_of_the_document(self):
        self.assertEqual(possible(CASE, "acre", RULE), ["bea", "fay", "xan"])
        self.assertEqual(possible(Case(SMALL, {}, (), 1), "acre", RULE), ["bea", "xan"])
        self.assertEqual(possible(CASE.found(1, "sound"), "acre", RULE), ["bea"])
        self.assertIs(is_sure(CASE, "acre", RULE, "bea"), False)
        self.assertIs(is_sure(Case(SMALL, {}, (), 0), "acre", RULE, "bea"), True)
        self.assertIs(is_sure(CASE.found(1, "sound"), "acre", RULE, "bea"), True)
        self.assertEqual([sure_up_to(CASE, "acre", RULE, name) for name in ("bea", "fay", "xan")], [0, -1, -1])
        self.assertIs(sure_up_to(Case(SMALL, {}, (), 0), "acre", RULE, "bea"), None)
        self.assertEqual(sure_up_to(Case(SMALL, {}, (), 1), "acre", RULE, "bea"), 0)

    def test_two_forgeries_are_needed(self):
        # The buyer holds by either of two sales.
        sale = ("sale", "fay", "bea", ("acre",), 1, 1)
        case = Case((SMALL[0], (sale, sale)), {}, (), None)
        self.assertEqual([sure_up_to(case, "acre", ("drawn", "never"), name) for name in ("bea", "fay")], [1, -1])
        self.assertIs(sure_up_to(Case((SMALL[0], (sale, sale)), {}, (), 1), "acre", ("drawn", "never"), "bea"), None)
        self.assertEqual(sure_up_to(Case((SMALL[0], (sale, sale)), {}, ((0, 1),), None), "acre", RULE, "bea"), 0)

    def test_names_that_stand_nowhere(self):
        self.assertIs(is_sure(CASE, "acre", RULE, "zoe"), False)
        self.assertEqual(sure_up_to(CASE, "acre", RULE, "zoe"), -1)

    def test_no_papers(self):
        case = Case(BARE, {}, (), 0)
        self.assertEqual(possible(case, "acre", RULE), ["fay"])
        self.assertEqual([is_sure(case, "acre", RULE, name) for name in ("fay", "zoe")], [True, False])
        self.assertEqual([sure_up_to(case, "acre", RULE, name) for name in ("fay", "zoe")], [None, -1])

    def test_made_cases(self):
        for arguments, plot, rule in asked(60) + lively(60, 7):
            case, holders = Case(*arguments), told_holders(arguments, plot, rule)
            rows = [(name, len(told_voids(arguments, truth))) for truth, name in holders.items()]
            self.assertEqual(possible(case, plot, rule), sorted(set(holders.values())))
            for name in PEOPLE:
                self.assertIs(is_sure(case, plot, rule, name), set(holders.values()) == {name})
                self.assertEqual(sure_up_to(case, plot, rule, name), told_up_to(name, rows))

    def test_sure_exactly_if_no_walk_with_as_few_ends_elsewhere(self):
        for arguments, plot, rule in asked(60) + lively(60, 7):
            case = Case(*arguments)
            for name in PEOPLE:
                least = least_elsewhere(case, plot, rule, name)
                if least is not None and case.most() is not None and least > case.most():
                    # The graph has such a walk, by words of several truths, but no truth goes it.
                    least = None
                self.assertEqual(sure_up_to(case, plot, rule, name), None if least is None else least - 1)


class Forty(unittest.TestCase):
    def test_two_void_papers_at_most(self):
        roll = long_roll(8, ("sale", "sale", "loan"))
        case = Case(roll, {}, (), 2)
        for rule in RULES[::3]:
            rows = [(told_states(roll, "acre", rule, truth)[-1][0], len(truth)) for truth in case.truths()]
            self.assertEqual(possible(case, "acre", rule), sorted({name for name, _ in rows}))
            for name in sorted({name for name, _ in rows}) + ["zoe"]:
                self.assertEqual(sure_up_to(case, "acre", rule, name), told_up_to(name, rows))
                self.assertIs(is_sure(case, "acre", rule, name), {one for one, _ in rows} == {name})

    def test_as_the_numbers_tell(self):
        for seed, most in ((9, None), (10, 25)):
            case = Case(long_roll(seed), {}, ((3, 8, 9),), most)
            for rule in RULES[seed % 4::4]:
                rows = list(numbers(case, "acre", rule))
                self.assertEqual(possible(case, "acre", rule), sorted({name for name, _ in rows}))
                for name in ("ann", "bob", "zoe"):
                    self.assertEqual(sure_up_to(case, "acre", rule, name), told_up_to(name, rows))

    def test_sure_up_to_many(self):
        # Twenty sales of the same: only if all of them are void the first holder keeps the land.
        papers = tuple(("sale", "fay", "bea", ("acre",), day, day) for day in range(20))
        others = tuple(("loan", "fay", "len", "acre", 1, day, None) for day in range(20))
        for rule in RULES:
            case = Case((SMALL[0], papers + others), {}, (), None)
            # A void sale overrides once it is entered, where forged is "once" and prior is not "drawn".
            many = None if rule[1] == "once" and rule[0] != "drawn" else 19
            self.assertEqual(sure_up_to(case, "acre", rule, "bea"), many)
            self.assertIs(sure_up_to(Case(case.roll(), {}, (), 19), "acre", rule, "bea"), None)


if __name__ == "__main__":
    unittest.main()
