"""[50], with [8]; [3] and [4] as far as they speak of them."""

import copy
import random
import unittest
from collections import Counter

from samples import (
    BARE, RULE, RULES, SMALL, WIDE, long_roll, made_cases, odd_values, spoiled, told_doubts, told_node, told_open,
    told_states, told_truths,
)
from soundtitle.cases import Case
from soundtitle.errors import NoNode, NoPlace, NoTruth, Wrong
from soundtitle.graph import Graph
from soundtitle.moments import moments
from soundtitle.rolls import plots
from soundtitle.walks import holder

CASE = Case(SMALL, {}, (), None)
FIRST = ("fay", "fay", ())


class Example(unittest.TestCase):
    def test_the_example_of_the_document(self):
        graph = Graph(CASE, "acre", ("entered", "never"))
        self.assertEqual(
            [graph.places(), graph.open_at(1), len(graph.nodes(1)), len(graph.nodes(4))], [5, [0], 2, 3]
        )

    def test_all_of_a_small_graph(self):
        graph = Graph(CASE, "acre", ("drawn", "never"))
        start, sold, end = (FIRST, ()), ("xan", "fay", ()), ("bea", "bea", ())
        self.assertEqual([graph.open_at(place) for place in range(5)], [[], [0], [], [1], []])
        self.assertEqual(graph.nodes(0), [start])
        self.assertEqual(graph.nodes(1), [(FIRST, ((0, "void"),)), (sold, ((0, "sound"),))])
        self.assertEqual(graph.steps(0), [
            (start, "sound", (sold, ((0, "sound"),))), (start, "void", (FIRST, ((0, "void"),))),
        ])
        self.assertEqual(graph.steps(1), [
            ((FIRST, ((0, "void"),)), "", start), ((sold, ((0, "sound"),)), "", (("xan", "xan", ()), ())),
        ])
        self.assertEqual(graph.nodes(4), [(end, ()), start, (("xan", "xan", ()), ())])
        self.assertEqual([graph.come(4, node) for node in graph.nodes(4)], [1, 2, 1])
        self.assertEqual(graph.walk((0,)), [
            start, (FIRST, ((0, "void"),)), start, (FIRST, ((1, "sound"),)), start,
        ])

    def test_no_papers(self):
        graph = Graph(Case(BARE, {}, (), None), "acre", RULE)
        self.assertEqual([graph.places(), graph.open_at(0), graph.nodes(0)], [1, [], [(FIRST, ())]])
        self.assertEqual([graph.walk(()), graph.come(0, (FIRST, ()))], [[(FIRST, ())], 1])
        with self.assertRaises(NoPlace):
            graph.steps(0)

    def test_known_papers_have_no_words(self):
        for word, end in (("sound", ("bea", "bea", ())), ("void", ("xan", "xan", ()))):
            graph = Graph(Case(SMALL, {0: "sound", 1: word}, (), None), "acre", ("entered", "never"))
            self.assertEqual([graph.open_at(place) for place in range(5)], [[]] * 5)
            self.assertEqual([step[1] for place in range(4) for step in graph.steps(place)], [""] * 4)
            self.assertEqual([graph.nodes(4), graph.come(4, (end, ()))], [[(end, ())], 1])

    def test_a_doubt_with_one_moment_is_never_open(self):
        roll = (BARE[0], (("loan", "fay", "len", "acre", 5, 1, None), ("release", "len", 0, 2)))
        graph = Graph(Case(roll, {}, (), None), "acre", RULE)
        self.assertEqual([graph.open_at(place) for place in range(3)], [[], [], []])
        for place in range(2):
            self.assertEqual(graph.steps(place), [
                ((FIRST, ()), "sound", (FIRST, ())), ((FIRST, ()), "void", (FIRST, ())),
            ])
        self.assertEqual(graph.come(2, (FIRST, ())), 4)

    def test_a_group_is_open_from_its_first_moment_to_its_last(self):
        graph = Graph(Case(SMALL, {}, ((0, 1),), None), "acre", ("drawn", "never"))
        self.assertEqual([graph.open_at(place) for place in range(5)], [[], [0], [0], [0], []])
        self.assertEqual([len(graph.nodes(place)) for place in range(5)], [1, 2, 2, 2, 2])
        words = [sorted({step[1] for step in graph.steps(place)}) for place in range(4)]
        self.assertEqual(words, [["sound", "void"], [""], [""], [""]])

    def test_papers_of_other_plots(self):
        # Of the group, paper 1 has moments of both plots and paper 3 of moor alone; paper 0 is for acre.
        case = Case(WIDE, {}, ((1, 3),), None)
        graph = Graph(case, "acre", RULE)
        self.assertEqual([graph.open_at(place) for place in range(8)], [
            [], [0], [0, 1], [0], [0, 6], [6], [6], [],
        ])
        self.assertEqual(sum(graph.come(7, node) for node in graph.nodes(7)), 2 ** 7)
        graph = Graph(case, "moor", RULE)
        self.assertEqual([graph.open_at(place) for place in range(7)], [[], [], [], [1], [1], [], []])

    def test_the_bound(self):
        graph = Graph(Case(SMALL, {}, (), 0), "acre", ("drawn", "never"))
        self.assertEqual([len(graph.nodes(place)) for place in range(5)], [1] * 5)
        self.assertEqual([len(graph.steps(place)) for place in range(4)], [1] * 4)
        self.assertEqual([graph.come(place, graph.nodes(place)[0]) for place in range(5)], [1] * 5)
        graph = Graph(Case(SMALL, {}, (), 1), "acre", ("drawn", "never"))
        self.assertEqual([graph.come(1, node) for node in graph.nodes(1)], [1, 2])
        # Behind a void paper nothing else may be void.
        start = (FIRST, ((0, "void"),))
        self.assertEqual([step for step in graph.steps(1) if step[0] == start], [(start, "", (FIRST, ()))])
        self.assertEqual(
            [step for step in graph.steps(2) if step[0] == (FIRST, ())],
            [((FIRST, ()), "sound", (FIRST, ((1, "sound"),)))],
        )


class Counted(unittest.TestCase):
    """The graph, held against a plain count over all truths."""

    def assert_graph(self, arguments, plot, rule, truths):
        case = Case(*arguments)
        graph = Graph(case, plot, rule)
        rows = moments(arguments[0], plot)
        opened = [told_open(*arguments[:3], plot, place) for place in range(len(rows) + 1)]
        walks = {}
        for truth in truths:
            line = told_states(arguments[0], plot, rule, truth)
            walks[truth] = [
                (state, tuple((head, "void" if head in truth else "sound") for head in heads))
                for state, heads in zip(line, opened)
            ]
            self.assertEqual(graph.walk(truth), walks[truth])
        self.assertEqual(graph.places(), len(rows) + 1)
        for place, heads in enumerate(opened):
            self.assertEqual(graph.open_at(place), heads)
            come = Counter(walk[place] for walk in walks.values())
            self.assertEqual(graph.nodes(place), sorted(come))
            for node, many in come.items():
                self.assertEqual(graph.come(place, node), many)
        for place, (_, number, _) in enumerate(rows):
            doubt = [doubt for doubt in told_doubts(*arguments[:3]) if number in doubt]
            is_first = doubt and not any(row[1] in doubt[0] for row in rows[:place])
            found = {
                (walk[place], ("void" if number in truth else "sound") if is_first else "", walk[place + 1])
                for truth, walk in walks.items()
            }
            self.assertEqual(graph.steps(place), sorted(found))

    def test_made_cases(self):
        for arguments in made_cases(60):
            truths = told_truths(*arguments)
            for plot in plots(arguments[0]):
                for rule in RULES:
                    self.assert_graph(arguments, plot, rule, truths)

    def test_forty_doubts_of_which_two_are_void_at_most(self):
        for seed in (3, 4):
            arguments = (long_roll(seed), {}, (), 2)
            truths = Case(*arguments).truths()
            self.assertEqual(len(truths), 1 + 40 + 780)
            for rule in (("both", "once"), ("entered", "never"), ("innocent", "next")):
                self.assert_graph(arguments, "acre", rule, truths)

    def test_truths_go_the_same_walk_just_if_they_are_alike_in_the_doubts_of_the_plot(self):
        for arguments in made_cases(60):
            case = Case(*arguments)
            for plot in plots(arguments[0]):
                numbers = [number for _, number, _ in moments(arguments[0], plot)]
                of_plot = [doubt[0] for doubt in case.doubts() if any(number in doubt for number in numbers)]
                graph = Graph(case, plot, ("both", "never"))
                gone = {}
                for truth in case.truths():
                    walk = walk_with_words(graph, numbers, case, truth)
                    gone.setdefault(walk, set()).add(tuple(head for head in of_plot if head in truth))
                self.assertTrue(all(len(alike) == 1 for alike in gone.values()))
                self.assertEqual(len({alike for some in gone.values() for alike in some}), len(gone))

    def test_each_walk_that_the_bound_lets_is_gone_by_some_truth(self):
        for arguments in made_cases(60):
            case = Case(*arguments)
            if len(arguments[0][1]) <= 5:
                for plot in plots(arguments[0]):
                    numbers = [number for _, number, _ in moments(arguments[0], plot)]
                    for rule in RULES[::3]:
                        graph = Graph(case, plot, rule)
                        gone = {walk_with_words(graph, numbers, case, truth) for truth in case.truths()}
                        self.assertEqual(all_walks(graph, case), gone)


def walk_with_words(graph, numbers, case, truth):
    """The walk of a truth, with the words of its steps."""
    words = []
    for at, number in enumerate(numbers):
        doubt = case.doubt_of(number)
        is_first = doubt and not any(other in doubt for other in numbers[:at])
        words.append(("void" if number in truth else "sound") if is_first else "")
    return (tuple(graph.walk(truth)), tuple(words))


def all_walks(graph, case):
    """All walks from the beginning to the end with no more void words than the bound lets."""
    walks = [((node,), ()) for node in graph.nodes(0)]
    for place in range(graph.places() - 1):
        steps = graph.steps(place)
        walks = [
            (nodes + (other,), words + (word,))
            for nodes, words in walks for node, word, other in steps if node == nodes[-1]
        ]
    most = len(case.doubts()) if case.most() is None else case.most()
    return {walk for walk in walks if walk[1].count("void") <= most}


class Forty(unittest.TestCase):
    def test_all_truths_come_to_each_place(self):
        roll = long_roll(5)
        for rule in (("both", "never"), ("entered", "once")):
            for most in (None, 11):
                case = Case(roll, {}, (), most)
                graph = Graph(case, "acre", rule)
                self.assertEqual(max(len(graph.open_at(place)) for place in range(graph.places())), 9)
                for place in (0, 13, 40, 67, 80):
                    self.assertEqual(sum(graph.come(place, node) for node in graph.nodes(place)), case.count())

    def test_walks_of_some_truths(self):
        source = random.Random(5)
        for seed, rule in ((6, ("both", "next")), (7, ("innocent", "never"))):
            roll = long_roll(seed, ("sale", "sale", "loan"))
            graph = Graph(Case(roll, {}, (), None), "acre", rule)
            nodes = [set(graph.nodes(place)) for place in range(graph.places())]
            steps = [{step[::2] for step in graph.steps(place)} for place in range(graph.places() - 1)]
            for _ in range(20):
                truth = tuple(number for number in range(40) if source.random() < 0.5)
                walk = graph.walk(truth)
                self.assertTrue(all(node in some for node, some in zip(walk, nodes)))
                self.assertTrue(all(pair in some for pair, some in zip(zip(walk, walk[1:]), steps)))
                self.assertEqual(walk[-1][0][0], holder(roll, "acre", rule, truth))
                self.assertEqual(walk[30], told_node(roll, {}, (), "acre", rule, truth, 30))


class Refused(unittest.TestCase):
    def test_wrong_arguments_in_their_order(self):
        for thing in odd_values():
            if not isinstance(thing, Case):
                for plot, rule in (("acre", RULE), (None, None)):
                    self.assert_wrong(0, thing, plot, rule)
            if thing != "acre":
                for rule in (RULE, None):
                    self.assert_wrong(1, CASE, thing, rule)
            if thing != ("drawn", "never"):
                self.assert_wrong(2, CASE, "acre", thing)
        self.assert_wrong(1, CASE, "moor", RULE)
        self.assert_wrong(2, CASE, "acre", ("never", "drawn"))
        self.assert_wrong(2, CASE, "acre", list(RULE))

    def assert_wrong(self, place, *arguments):
        with self.assertRaises(Wrong) as caught:
            Graph(*arguments)
        self.assertEqual(caught.exception.place, place)

    def test_any_other_place_is_refused(self):
        graph = Graph(CASE, "acre", RULE)
        for thing in odd_values() + [5, -1]:
            is_place = isinstance(thing, int) and not isinstance(thing, bool) and 0 <= thing <= 4
            for call in (graph.open_at, graph.nodes, graph.steps, lambda place: graph.come(place, None)):
                if not is_place:
                    with self.assertRaises(NoPlace) as caught:
                        call(thing)
                    self.assertIs(caught.exception.place, thing)
        with self.assertRaises(NoPlace) as caught:
            graph.steps(4)
        self.assertEqual(caught.exception.place, 4)
        self.assertEqual([graph.open_at(4), len(graph.nodes(4))], [[], 3])

    def test_any_other_node_is_refused(self):
        graph = Graph(CASE, "acre", ("both", "never"))
        for place in (0, 1, 4):
            nodes = graph.nodes(place)
            things = odd_values() + [node for other in range(5) for node in graph.nodes(other) if node not in nodes]
            for node in nodes:
                things.extend(spoiled(node))
            fine = [repr(node) for node in nodes]
            for thing in things:
                if repr(thing) not in fine:
                    with self.assertRaises(NoNode) as caught:
                        graph.come(place, thing)
                    self.assertIs(caught.exception.node, thing)

    def test_true_is_not_one(self):
        roll = (BARE[0], (("sale", "fay", "ann", ("acre",), 0, 3), ("sale", "ann", "bob", ("acre",), 1, 3)))
        graph = Graph(Case(roll, {}, (), None), "acre", ("both", "never"))
        node = (("bob", "fay", (0, 1)), ((0, "sound"), (1, "sound")))
        self.assertEqual(graph.come(2, node), 1)
        for thing in (
            (("bob", "fay", (False, 1)), node[1]), (("bob", "fay", (0, True)), node[1]),
            (node[0], ((False, "sound"), (1, "sound"))), (node[0], ((0, "sound"), (True, "sound"))),
            (("bob", "fay", [0, 1]), node[1]), (node[0], list(node[1])), list(node),
        ):
            with self.assertRaises(NoNode):
                graph.come(2, thing)
        for place in (True, False):
            with self.assertRaises(NoPlace):
                graph.nodes(place)

    def test_a_node_that_the_bound_forbids_is_none(self):
        graph = Graph(Case(SMALL, {}, (), 0), "acre", RULE)
        with self.assertRaises(NoNode):
            graph.come(1, (FIRST, ((0, "void"),)))

    def test_any_value_that_is_no_truth_is_refused(self):
        graph = Graph(Case(SMALL, {}, (), 1), "acre", RULE)
        for thing in odd_values() + [(0, 1), (True,), (2,), [0]]:
            if repr(thing) not in ("()", "(0,)", "(1,)"):
                with self.assertRaises(NoTruth) as caught:
                    graph.walk(thing)
                self.assertIs(caught.exception.truth, thing)


class Kept(unittest.TestCase):
    def test_what_is_returned_may_be_changed(self):
        graph = Graph(CASE, "acre", RULE)
        before = told(graph)
        for place in range(5):
            graph.open_at(place).append(7)
            graph.nodes(place).clear()
            if place < 4:
                graph.steps(place).clear()
        graph.walk(()).clear()
        self.assertEqual(told(graph), before)
        self.assertEqual(told(Graph(CASE, "acre", RULE)), before)

    def test_what_was_asked_ahead_changes_nothing(self):
        one = Graph(CASE, "acre", RULE)
        one.nodes(4)
        other = Graph(CASE, "acre", ("drawn", "never"))
        again = Graph(CASE, "acre", RULE)
        for graph in (one, again):
            self.assertEqual(told(graph), told(Graph(Case(SMALL, {}, (), None), "acre", RULE)))
        self.assertEqual(told(other), told(Graph(Case(SMALL, {}, (), None), "acre", ("drawn", "never"))))

    def test_two_graphs_of_one_case_that_are_asked_by_turns(self):
        for arguments in made_cases(20):
            case = Case(*arguments)
            plot = plots(arguments[0])[0]
            graphs = [Graph(case, plot, rule) for rule in RULES[::4]]
            found = [[graph.nodes(place) for graph in graphs] for place in range(graphs[0].places())]
            for at, rule in enumerate(RULES[::4]):
                alone = Graph(Case(*copy.deepcopy(arguments)), plot, rule)
                self.assertEqual([row[at] for row in found], [alone.nodes(place) for place in range(alone.places())])


def told(graph):
    places = range(graph.places())
    return [
        [graph.open_at(place) for place in places], [graph.nodes(place) for place in places],
        [graph.steps(place) for place in places[:-1]], graph.walk(()),
        [graph.come(place, node) for place in places for node in graph.nodes(place)],
    ]


if __name__ == "__main__":
    unittest.main()
