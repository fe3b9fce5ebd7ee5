"""[91], with [22] and [40]; [3] and [4] as far as they speak of them."""

import copy
import fractions
import unittest

from samples import (
    BARE, FORGED, RULE, RULES, SMALL, WIDE, lively, made_cases, odd_values, spoiled, told_doubts, told_states,
    told_truths,
)
from soundtitle.cases import Case
from soundtitle.errors import NoPaper, NoPlot, Wrong
from soundtitle.forms import is_paper
from soundtitle.late import differs, late, reaches
from soundtitle.rolls import plots, with_paper

CASE = Case(SMALL, {}, (), None)
SALE = ("sale", "fay", "gil", ("acre",), 0, None)
LOAN = ("loan", "fay", "len", "acre", 5, 0, None)


class Late(unittest.TestCase):
    def test_a_doubt_of_its_own(self):
        found = late(CASE, 1, SALE, None)
        self.assertEqual(found.roll(), (SMALL[0], (SMALL[1][0], SALE, SMALL[1][1])))
        self.assertEqual(found.doubts(), [(0,), (1,), (2,)])
        self.assertEqual([found.known(), found.groups(), found.most()], [{}, (), None])

    def test_known_words(self):
        for word in ("sound", "void"):
            for at in range(3):
                found = late(CASE, at, SALE, word)
                self.assertEqual(found, Case(with_paper(SMALL, at, SALE), {at: word}, (), None))

    def test_known_words_and_groups_are_led_along(self):
        case = Case(WIDE, {1: "void", 6: "sound"}, ((0, 3), (2, 5, 7)), 2)
        for at, known, groups in (
            (0, {2: "void", 7: "sound"}, ((1, 4), (3, 6, 8))), (1, {2: "void", 7: "sound"}, ((0, 4), (3, 6, 8))),
            (3, {1: "void", 7: "sound"}, ((0, 4), (2, 6, 8))), (8, {1: "void", 6: "sound"}, ((0, 3), (2, 5, 7))),
        ):
            for word in ("sound", "void", None):
                expected = dict(known) if word is None else {**known, at: word}
                found = late(case, at, SALE, word)
                self.assertEqual(found, Case(with_paper(WIDE, at, SALE), expected, groups, 2))
                self.assertEqual(list(found.known()), sorted(expected))

    def test_releases_are_led_along(self):
        case = Case(WIDE, {}, (), None)
        found = late(case, 0, LOAN, None)
        self.assertEqual([found.roll()[1][3], found.roll()[1][6]], [("release", "len", 1, 4), ("release", "moe", 5, 0)])
        # A release that is put in tells numbers as they are then.
        found = late(case, 5, ("release", "moe", 4, 3), "sound")
        self.assertEqual(found.roll()[1][4:7], (WIDE[1][4], ("release", "moe", 4, 3), ("release", "moe", 4, 0)))
        with self.assertRaises(Wrong) as caught:
            late(case, 4, ("release", "moe", 4, 3), "sound")
        self.assertEqual(caught.exception.place, 2)

    def test_a_roll_without_papers(self):
        self.assertEqual(late(Case(BARE, {}, (), 0), 0, SALE, None), Case((BARE[0], (SALE,)), {}, (), 0))

    def test_the_elder_case_stays(self):
        arguments = (WIDE, {1: "void", 6: "sound"}, ((0, 3), (2, 5, 7)), 2)
        case = Case(*copy.deepcopy(arguments))
        late(case, 0, SALE, "void").known().clear()
        self.assertEqual(case, Case(*arguments))

    def test_made_cases(self):
        for arguments in made_cases(40):
            roll, known, groups, most = arguments
            paper = ("sale", "zoe", "ann", (plots(roll)[0],), 3, 4)
            for at in range(len(roll[1]) + 1):
                led = [number + (number >= at) for number in range(len(roll[1]))]
                found = late(Case(*arguments), at, paper, None)
                expected = {tuple(led[number] for number in doubt) for doubt in told_doubts(roll, known, groups)}
                self.assertEqual(set(found.doubts()), expected | {(at,)})
                self.assertEqual(found.known(), {led[number]: word for number, word in known.items()})
                self.assertEqual([found.roll(), found.most()], [with_paper(roll, at, paper), most])


class Differs(unittest.TestCase):
    def test_the_roll_of_the_document(self):
        self.assertEqual(differs(CASE, "acre", RULE, 0, SALE), [((0, 1), "fay", "gil")])
        self.assertEqual(reaches(CASE, "acre", RULE, 0, SALE), (1, 4))
        self.assertEqual(differs(CASE, "acre", ("drawn", "never"), 2, SALE), [
            ((), "bea", "gil"), ((0,), "fay", "gil"), ((0, 1), "fay", "gil"), ((1,), "xan", "gil"),
        ])
        self.assertEqual(reaches(CASE, "acre", ("drawn", "never"), 2, SALE), (1, 1))

    def test_nothing_moves(self):
        for paper in (LOAN, ("sale", "bea", "fay", ("acre",), 0, 0)):
            self.assertEqual(differs(CASE, "acre", ("drawn", "never"), 1, paper), [])
            self.assertEqual(reaches(CASE, "acre", ("drawn", "never"), 1, paper), (0, 1))
        case = Case(WIDE, {}, (), None)
        self.assertEqual(differs(case, "moor", RULE, 0, SALE), [])

    def test_the_number_tells_on_one_day(self):
        roll = (SMALL[0], (("sale", "fay", "ann", ("acre",), 3, None),))
        case = Case(roll, {0: "sound"}, (), None)
        late_one = ("sale", "fay", "gil", ("acre",), 3, None)
        self.assertEqual(differs(case, "acre", ("drawn", "never"), 0, late_one), [((), "ann", "gil")])
        self.assertEqual(differs(case, "acre", ("drawn", "never"), 1, late_one), [])

    def test_small_cases(self):
        source = [(arguments, plot, rule) for arguments, plot, rule in lively(60, 6, 61)]
        source += [(arguments, plots(arguments[0])[0], RULES[at % 12]) for at, arguments in enumerate(made_cases(40))]
        moved = 0
        for turn, (arguments, plot, rule) in enumerate(source):
            if len(told_doubts(*arguments[:3])) > 7:
                continue
            case, truths = Case(*arguments), told_truths(*arguments)
            for at in range(len(arguments[0][1]) + 1):
                paper = ("sale", "ann", ("bob", "zoe")[turn % 2], (plot,), turn % 5, (None, 6)[turn % 3 % 2])
                roll = with_paper(arguments[0], at, paper)
                expected = []
                for truth in truths:
                    led = tuple(number + (number >= at) for number in truth)
                    walks = ((arguments[0], plot, rule, truth), (roll, plot, rule, led))
                    ends = [told_states(*walk)[-1][0] for walk in walks]
                    if ends[0] != ends[1]:
                        expected.append((truth, *ends))
                self.assertEqual(differs(case, plot, rule, at, paper), expected)
                share = fractions.Fraction(len(expected), len(truths))
                self.assertEqual(reaches(case, plot, rule, at, paper), (share.numerator, share.denominator))
                moved += len(expected)
        self.assertGreater(moved, 100)

    def test_what_is_returned_may_be_changed(self):
        for _ in range(2):
            self.assertEqual(len(differs(CASE, "acre", RULE, 0, SALE)), 1)
            differs(CASE, "acre", RULE, 0, SALE).clear()


class Refused(unittest.TestCase):
    def calls(self):
        return [
            (2, lambda at, paper: late(CASE, at, paper, None)), (2, lambda at, paper: late(CASE, at, paper, "void")),
            (4, lambda at, paper: differs(CASE, "acre", RULE, at, paper)),
            (4, lambda at, paper: reaches(CASE, "acre", RULE, at, paper)),
        ]

    def test_any_other_number_is_refused_ahead_of_the_paper(self):
        for thing in odd_values() + [3, 40]:
            if repr(thing) not in ("0", "1", "2"):
                for _, call in self.calls():
                    for paper in (SALE, None):
                        with self.assertRaises(NoPaper) as caught:
                            call(thing, paper)
                        self.assertIs(caught.exception.number, thing)

    def test_any_other_paper_is_refused(self):
        for thing in odd_values() + [("release", "len", 0, 3), ("sale", "fay", "gil", ("moor",), 0, None)]:
            if repr(thing) != repr(FORGED):
                self.assert_wrong(1, thing)
        for thing in spoiled(SALE):
            if not is_paper(thing) or thing[0] != "sale" or thing[3] != ("acre",):
                self.assert_wrong(0, thing)

    def assert_wrong(self, at, paper):
        for place, call in self.calls():
            with self.assertRaises(Wrong) as caught:
                call(at, paper)
            self.assertEqual(caught.exception.place, place)

    def test_any_other_plot_is_refused_first(self):
        for thing in odd_values() + ["moor"]:
            if thing != "acre":
                for call in (differs, reaches):
                    for at, paper in ((0, SALE), (None, SALE), (0, None), (None, None)):
                        with self.assertRaises(NoPlot) as caught:
                            call(CASE, thing, RULE, at, paper)
                        self.assertIs(caught.exception.plot, thing)


if __name__ == "__main__":
    unittest.main()
