"""[92], with [50] and [6]; [3] and [4] as far as they speak of them."""

import copy
import random
import unittest

from samples import (
    BARE, RULE, RULES, SMALL, hanging_roll, lively, long_roll, odd_values, small_cases, told_doubts, told_node,
    told_open, told_truths,
)
from soundtitle.cases import Case
from soundtitle.errors import NoPlace, NoPlot
from soundtitle.extracts import behind, extract, is_extract
from soundtitle.graph import Graph
from soundtitle.moments import moments
from soundtitle.rolls import plots
from soundtitle.shown import is_innocent
from soundtitle.surely import is_sure

CASE = Case(SMALL, {}, (), None)
FIRST = ("fay", "fay", ())
NAMES = ("ann", "bob", "cid", "dan", "zoe")


def told_step(roll, plot, rule, place, state, is_sound):
    """The state behind a moment, from any state ahead of it, by the words of [6] once more."""
    (prior, forged), (holder, base, row) = rule, state
    _, number, word = moments(roll, plot)[place]
    paper = roll[1][number]
    if paper[0] != "sale":
        return state
    _, seller, buyer, _, _, entered = paper
    innocent = is_innocent(roll, plot, number)
    if word == "drawn":
        if not is_sound:
            return state
        if seller == holder:
            is_put = entered is not None and prior in ("entered", "both")
            return (buyer, base, row + (number,) if is_put else row)
        return (buyer, base, row) if prior == "innocent" and innocent and seller == base else state
    other = buyer if seller == base and (is_sound or forged != "never") else base
    if number in row:
        at = row.index(number)
        return (holder, other, row[at + 1:] if seller == base else row[:at] + row[at + 1:])
    if is_sound and seller == base and (prior == "entered" or prior == "both" and innocent):
        return (buyer, other, ())
    if not is_sound and seller == base and forged == "once" and prior != "drawn" and innocent:
        return (buyer, other, ())
    return (holder, other, row)


def told_behind(arguments, plot, rule, place, node):
    """The nodes behind a node, by the words of [92] once more."""
    roll, known, groups = arguments[:3]
    number = moments(roll, plot)[place][1]
    doubt = [doubt for doubt in told_doubts(roll, known, groups) if number in doubt]
    words = dict(node[1])
    if not doubt:
        some = [known[number]]
    else:
        some = [words[doubt[0][0]]] if doubt[0][0] in words else ["sound", "void"]
    found = []
    for word in some:
        if doubt:
            words[doubt[0][0]] = word
        opened = told_open(roll, known, groups, plot, place + 1)
        state = told_step(roll, plot, rule, place, node[0], word == "sound")
        found.append((state, tuple((head, words[head]) for head in opened)))
    return sorted(set(found))


def told_extract(arguments, plot, rule):
    """The nodes of all truths, whatever the bound, place by place."""
    roll, known, groups = arguments[:3]
    truths = told_truths(roll, known, groups, None)
    places = range(len(moments(roll, plot)) + 1)
    return [sorted({told_node(roll, known, groups, plot, rule, truth, place) for truth in truths}) for place in places]


class Small(unittest.TestCase):
    def test_the_roll_of_the_document(self):
        rule = ("both", "once")
        start, forged = (FIRST, ()), (("xan", "xan", ()), ())
        self.assertEqual(extract(CASE, "acre", rule, "bea"), [
            [start],
            [(FIRST, ((0, "void"),)), (("xan", "fay", (0,)), ((0, "sound"),))],
            [forged],
            [(("bea", "xan", (1,)), ((1, "sound"),)), (("xan", "xan", ()), ((1, "void"),))],
            [(("bea", "bea", ()), ())],
        ])
        self.assertIs(extract(CASE, "acre", rule, "xan"), None)
        self.assertIs(extract(CASE, "acre", RULE, "bea"), None)

    def test_whatever_the_bound(self):
        # By the bound both are sound, and bea is sure; but an extract does not heed it.
        case = Case(SMALL, {}, (), 0)
        self.assertTrue(is_sure(case, "acre", RULE, "bea"))
        self.assertIs(extract(case, "acre", RULE, "bea"), None)
        rule = ("both", "once")
        self.assertEqual(extract(case, "acre", rule, "bea"), extract(CASE, "acre", rule, "bea"))
        self.assertIs(is_extract(case, "acre", rule, "bea", extract(CASE, "acre", rule, "bea")), True)

    def test_no_papers(self):
        case = Case(BARE, {}, (), None)
        self.assertEqual(extract(case, "acre", RULE, "fay"), [[(FIRST, ())]])
        self.assertIs(extract(case, "acre", RULE, "zoe"), None)
        self.assertIs(is_extract(case, "acre", RULE, "fay", [[(FIRST, ())]]), True)
        self.assertIs(is_extract(case, "acre", RULE, "zoe", [[(FIRST, ())]]), False)
        self.assertIs(is_extract(case, "acre", RULE, "fay", [[]]), False)
        self.assertIs(is_extract(case, "acre", RULE, "fay", []), False)
        # Another node at the last place, by which the name is the holder, and one by which it is not.
        self.assertIs(is_extract(case, "acre", RULE, "fay", [[(("fay", "zoe", (7,)), ()), (FIRST, ())]]), True)
        self.assertIs(is_extract(case, "acre", RULE, "fay", [[(("zoe", "fay", ()), ()), (FIRST, ())]]), False)
        for place in (0, 1, -1, True, None):
            with self.assertRaises(NoPlace):
                behind(case, "acre", RULE, place, (FIRST, ()))

    def test_the_nodes_behind_a_node(self):
        start = (FIRST, ())
        self.assertEqual(behind(CASE, "acre", RULE, 0, start), [
            (FIRST, ((0, "void"),)), (("xan", "fay", (0,)), ((0, "sound"),)),
        ])
        self.assertEqual(behind(CASE, "acre", RULE, 1, (FIRST, ((0, "void"),))), [(("fay", "xan", ()), ())])
        self.assertEqual(behind(Case(SMALL, {0: "void"}, (), None), "acre", RULE, 0, start), [start])
        # The bound is not heeded.
        self.assertEqual(len(behind(Case(SMALL, {}, (), 0), "acre", RULE, 0, start)), 2)
        # Where both words lead to one node, it is told once.
        roll = (BARE[0], (("loan", "fay", "len", "acre", 5, 1, None),))
        self.assertEqual(behind(Case(roll, {}, (), None), "acre", RULE, 0, start), [start])

    def test_nodes_to_which_no_truth_comes(self):
        # Behind an override at the drawing the row stays, be it what it may.
        rule = ("innocent", "never")
        self.assertEqual(behind(CASE, "acre", rule, 0, (("xan", "fay", (1,)), ())), [
            (("xan", "fay", (1,)), ((0, "sound"),)), (("xan", "fay", (1,)), ((0, "void"),)),
        ])
        self.assertEqual(behind(CASE, "acre", rule, 0, (("gil", "fay", (0, 9)), ())), [
            (("gil", "fay", (0, 9)), ((0, "void"),)), (("xan", "fay", (0, 9)), ((0, "sound"),)),
        ])
        # A number that stands in the row is not put aside by an override when it is entered.
        self.assertEqual(behind(CASE, "acre", ("entered", "once"), 1, (("gil", "fay", (9, 0, 4)), ((0, "void"),))), [
            (("gil", "xan", (4,)), ()),
        ])
        self.assertEqual(behind(CASE, "acre", ("entered", "once"), 1, (("gil", "zoe", (9, 0, 4)), ((0, "sound"),))), [
            (("gil", "zoe", (9, 4)), ()),
        ])


class AllTruths(unittest.TestCase):
    def test_small_cases_by_all_rules(self):
        found = 0
        for arguments, told in small_cases(30, 5):
            case = Case(*arguments)
            free = Case(*arguments[:3], None)
            for plot in plots(arguments[0]):
                for rule in RULES:
                    expected = told_extract(arguments, plot, rule)
                    ends = {state[0] for state, _ in expected[-1]}
                    for name in NAMES:
                        one = extract(case, plot, rule, name)
                        self.assertEqual(one, expected if ends == {name} else None)
                        self.assertIs(is_extract(case, plot, rule, name, expected), ends == {name})
                        found += one is not None
                    # Who is sure whatever the bound is sure.
                    if len(ends) == 1:
                        self.assertEqual(set(told[rule][plot].values()), ends)
                    graph = Graph(free, plot, rule)
                    self.assertEqual(expected, [graph.nodes(place) for place in range(graph.places())])
        self.assertGreater(found, 100)

    def test_nodes_behind_are_those_of_the_steps(self):
        for arguments, plot, rule in lively(60, 6, 71):
            case, graph = Case(*arguments), Graph(Case(*arguments[:3], None), plot, rule)
            for place in range(graph.places() - 1):
                steps = graph.steps(place)
                for node in graph.nodes(place):
                    expected = sorted({other for one, _, other in steps if one == node})
                    self.assertEqual(behind(case, plot, rule, place, node), expected)
                    self.assertEqual(told_behind(arguments, plot, rule, place, node), expected)

    def test_any_nodes_of_this_form(self):
        source = random.Random(5)
        for arguments, plot, rule in lively(150, 6, 72):
            case, roll = Case(*arguments), arguments[0]
            for place in range(len(moments(roll, plot))):
                row = tuple(source.sample(range(8), source.randint(0, 4)))
                state = (source.choice(NAMES), source.choice(NAMES), row)
                opened = told_open(*arguments[:3], plot, place)
                node = (state, tuple((head, source.choice(("sound", "void"))) for head in opened))
                before = copy.deepcopy(node)
                expected = told_behind(arguments, plot, rule, place, node)
                self.assertEqual(behind(case, plot, rule, place, node), expected)
                self.assertEqual(node, before)


class IsExtract(unittest.TestCase):
    def made(self):
        """Extracts of small Cases, and what they are of."""
        found = []
        for arguments, plot, rule in lively(120, 5, 73):
            case = Case(*arguments)
            for name in NAMES:
                rows = extract(case, plot, rule, name)
                if rows is not None:
                    found.append((arguments, plot, rule, name, rows))
        return found

    def test_in_any_order_and_some_twice(self):
        source = random.Random(6)
        for arguments, plot, rule, name, rows in self.made():
            case = Case(*arguments)
            thing = [[*row, *source.sample(row, source.randint(0, len(row)))] for row in rows]
            for row in thing:
                source.shuffle(row)
            before = copy.deepcopy(thing)
            self.assertIs(is_extract(case, plot, rule, name, thing), True)
            self.assertEqual(thing, before)

    def test_no_node_may_be_left_out(self):
        for arguments, plot, rule, name, rows in self.made()[:40]:
            case = Case(*arguments)
            for place, row in enumerate(rows):
                for at in range(len(row)):
                    thing = [list(one) for one in rows]
                    del thing[place][at]
                    self.assertIs(is_extract(case, plot, rule, name, thing), False)
            self.assertIs(is_extract(case, plot, rule, name, rows[:-1]), False)
            self.assertIs(is_extract(case, plot, rule, name, rows + [rows[-1]]), False)

    def test_others_besides_with_all_behind_them(self):
        source = random.Random(7)
        taken = 0
        for arguments, plot, rule, name, rows in self.made() * 3:
            case = Case(*arguments)
            place = source.randrange(len(rows))
            opened = told_open(*arguments[:3], plot, place)
            row = tuple(source.sample(range(9), source.randint(0, 3)))
            state = (source.choice((name, *NAMES)), source.choice(NAMES), row)
            some = [(state, tuple((head, source.choice(("sound", "void"))) for head in opened))]
            thing = [list(one) for one in rows]
            thing[place] += some
            for at in range(place, len(rows) - 1):
                some = sorted({other for node in some for other in told_behind(arguments, plot, rule, at, node)})
                if any(other not in thing[at + 1] for other in some):
                    self.assertIs(is_extract(case, plot, rule, name, thing), False)
                thing[at + 1] += some
            # A number twice in a row is no node by its form.
            is_fine = all(state[0] == name for state, _ in some)
            is_fine = is_fine and all(len(set(state[2])) == len(state[2]) for one in thing for state, _ in one)
            self.assertIs(is_extract(case, plot, rule, name, thing), is_fine)
            taken += is_fine
        self.assertGreater(taken, 30)

    def test_any_value(self):
        rule = ("both", "once")
        fine = extract(CASE, "acre", rule, "bea")
        for thing in odd_values():
            self.assertIs(is_extract(CASE, "acre", rule, "bea", thing), False)
            for place in range(5):
                self.assertIs(is_extract(CASE, "acre", rule, "bea", fine[:place] + [thing] + fine[place + 1:]), False)
                rows = copy.deepcopy(fine)
                rows[place].append(thing)
                self.assertIs(is_extract(CASE, "acre", rule, "bea", rows), False)
                rows[place][0] = (rows[place][0][0], thing)
                self.assertIs(is_extract(CASE, "acre", rule, "bea", rows), False)
                rows = copy.deepcopy(fine)
                rows[place].append((thing, rows[place][0][1]))
                self.assertIs(is_extract(CASE, "acre", rule, "bea", rows), False)
        self.assertIs(is_extract(CASE, "acre", rule, "bea", tuple(fine)), False)
        self.assertIs(is_extract(CASE, "acre", rule, "bea", [tuple(row) for row in fine]), False)
        self.assertIs(is_extract(CASE, "acre", rule, "fay", fine), False)

    def test_forms_of_nodes(self):
        rule = ("both", "once")
        fine = extract(CASE, "acre", rule, "bea")
        for node, is_fine in (
            ((("bea", "gil", ()), ()), True), ((("bea", "gil", (0, 5, 3)), ()), True),
            ((("bea", "gil", (10 ** 39,)), ()), True), ((("bea", "gil", (5, 5)), ()), False),
            ((("bea", "gil", (-1,)), ()), False), ((("bea", "gil", (True,)), ()), False),
            ((("bea", "gil", [1]), ()), False), ((("bea", "none", ()), ()), False), ((("bea", "gil"), ()), False),
            ((("gil", "bea", ()), ()), False), ((("bea", "gil", ()), ((1, "sound"),)), False),
            ((("bea", "gil", ()), []), False), (["bea", "gil", ()], False), ((("bea", "gil", (), ()), ()), False),
        ):
            self.assertIs(is_extract(CASE, "acre", rule, "bea", fine[:4] + [fine[4] + [node]]), is_fine, node)
        for words in (
            (), ((0, "sound"), (1, "sound")), ((1, "none"),), ((True, "sound"),), ((1, "sound"), (1, "sound")),
            ((0, "sound"),), [(1, "sound")], ((1, "sound", 0),),
        ):
            rows = fine[:3] + [fine[3] + [(("bea", "xan", (1,)), words)], fine[4]]
            self.assertIs(is_extract(CASE, "acre", rule, "bea", rows), False)

    def test_true_is_not_one(self):
        rule = ("both", "once")
        rows = extract(CASE, "acre", rule, "bea")
        rows[3][0] = (("bea", "xan", (True,)), ((1, "sound"),))
        self.assertIs(is_extract(CASE, "acre", rule, "bea", rows), False)
        rows = extract(CASE, "acre", rule, "bea")
        rows[1][1] = (("xan", "fay", (0,)), ((False, "sound"),))
        self.assertIs(is_extract(CASE, "acre", rule, "bea", rows), False)


class Forty(unittest.TestCase):
    def strangers(self, seed):
        """Forty sales by others than the first holder, who never sells."""
        roll = hanging_roll(seed) if seed % 2 else long_roll(seed)
        table = {"ann": "ivy"}
        papers = [paper[:1] + tuple(table.get(name, name) for name in paper[1:3]) + paper[3:] for paper in roll[1]]
        return (roll[0], tuple(papers))

    def test_strangers(self):
        for seed in range(4):
            roll = self.strangers(seed)
            for rule in RULES[seed::4]:
                case = Case(roll, {}, (), (None, 3)[seed % 2])
                found = extract(case, "acre", rule, "ann")
                self.assertEqual(found, [Graph(Case(roll, {}, (), None), "acre", rule).nodes(at) for at in range(81)])
                self.assertIs(is_extract(case, "acre", rule, "ann", found), True)
                self.assertIs(extract(case, "acre", rule, "bob"), None)
                found[40].pop()
                self.assertIs(is_extract(case, "acre", rule, "ann", found), False)

    def test_a_title_that_is_not_sure(self):
        for seed in range(2):
            case = Case(hanging_roll(seed), {}, (), 0)
            for rule in RULES[seed::6]:
                self.assertTrue(all(extract(case, "acre", rule, name) is None for name in ("ann", "bob", "cid")))

    def test_nodes_behind(self):
        case = Case(hanging_roll(1), {}, ((3, 4),), 2)
        for rule in RULES[::5]:
            graph = Graph(case, "acre", rule)
            for place in (0, 17, 40, 79):
                for node, _, other in graph.steps(place)[:50]:
                    self.assertIn(other, behind(case, "acre", rule, place, node))


class Refused(unittest.TestCase):
    def test_any_other_plot_ahead_of_the_place(self):
        for thing in odd_values() + ["moor"]:
            if thing != "acre":
                for place in (0, None, 9):
                    with self.assertRaises(NoPlot) as caught:
                        behind(CASE, thing, RULE, place, (FIRST, ()))
                    self.assertIs(caught.exception.plot, thing)

    def test_any_other_place_or_the_last_one(self):
        for thing in odd_values() + [4, 5, -1]:
            if repr(thing) not in ("0", "1", "2", "3"):
                with self.assertRaises(NoPlace) as caught:
                    behind(CASE, "acre", RULE, thing, (FIRST, ()))
                self.assertIs(caught.exception.place, thing)

    def test_what_is_returned_may_be_changed(self):
        rule = ("both", "once")
        for _ in range(2):
            found = extract(CASE, "acre", rule, "bea")
            self.assertEqual([len(row) for row in found], [1, 2, 1, 2, 1])
            for row in found:
                row.clear()
            found.clear()
            some = behind(CASE, "acre", rule, 0, (FIRST, ()))
            self.assertEqual(len(some), 2)
            some.clear()


if __name__ == "__main__":
    unittest.main()
