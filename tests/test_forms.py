"""[21], with the definitions of [2] and the first sentence of [6]; [3] and [4] as far as they speak of them."""

import copy
import unittest

from samples import BARE, SMALL, WIDE, deep, made_rolls, odd_values, spoiled
from soundtitle import forms
from soundtitle.forms import is_day, is_integer, is_name, is_paper, is_roll, is_rule, is_truth, is_word

NO_NAMES = (
    "both bound claim entered drawn first found free group innocent known loan never next none once "
    "paper release rule sale sound undone void"
).split()

SALE = ("sale", "fay", "xan", ("acre", "moor"), 1, 2)
LOAN = ("loan", "fay", "len", "acre", 70, 1, 2)
RELEASE = ("release", "len", 0, 5)


class Told(unittest.TestCase):
    def assert_all(self, tells, things, expected):
        for thing in things:
            self.assertIs(tells(thing), expected, f"{tells.__name__}({thing!r})")


class Scalars(Told):
    def test_integers(self):
        self.assert_all(is_integer, [0, 1, -1, 10 ** 39, -(10 ** 39)], True)
        self.assert_all(is_integer, [True, False, None, "1", "", [1], (1,), {1: 1}], False)

    def test_days(self):
        self.assert_all(is_day, [0, 1, 10 ** 6, 10 ** 39], True)
        self.assert_all(is_day, [-1, -(10 ** 39), True, False, None, "0", (0,), [0]], False)

    def test_names(self):
        self.assert_all(is_name, ["a", "z", "fay", "acre", "abcdefgh", "salesman", "truth", "word", "day"], True)
        self.assert_all(is_name, ["", "abcdefghi", "Fay", "faY", "fa y", "fay ", "fay\n", "fa1", "a-b", "a_b"], False)
        self.assert_all(is_name, ["`", "{", "a`", "z{", "\u00e9", "\u00df", None, True, 1, ["a"], ("a",)], False)

    def test_words_that_are_no_names(self):
        self.assertEqual(len(NO_NAMES), 23)
        self.assert_all(is_name, NO_NAMES, False)
        self.assert_all(is_name, [word[:-1] + "q" for word in NO_NAMES], True)

    def test_words(self):
        self.assert_all(is_word, ["sound", "void"], True)
        self.assert_all(is_word, ["", "Sound", "void ", "known", "soundvoid", None, True, 0, ("sound",), []], False)


class Rules(Told):
    def test_the_twelve_rules(self):
        some = [(a, b) for a in ("drawn", "entered", "innocent", "both") for b in ("never", "next", "once")]
        self.assert_all(is_rule, some, True)

    def test_what_is_none(self):
        self.assert_all(is_rule, [
            (), ("drawn",), ("drawn", "never", "never"), ("never", "drawn"), ("drawn", "both"), ("once", "once"),
            ["drawn", "never"], "drawn never", "drawn", None, True, ("drawn", None), (None, "never"),
            ("drawn", True), (["drawn"], "never"), ("drawn", ["never"]), ({}, {}),
        ], False)


class Truths(Told):
    def test_truths(self):
        self.assert_all(is_truth, [(), (0,), (1,), (0, 1), (3, 7, 10 ** 39), tuple(range(2900))], True)

    def test_what_is_none(self):
        self.assert_all(is_truth, [
            (1, 0), (0, 0), (0, 1, 1), (-1,), (-1, 0), (True,), (False,), (0, True), (False, 1), (0, None), ("0",),
            (0, "1"), ((0,),), [0], [], None, True, 0, "", {}, (0, [1]),
        ], False)


class Papers(Told):
    def test_sales(self):
        self.assert_all(is_paper, [
            SALE,
            ("sale", "fay", "xan", ("acre",), 0, 0),
            ("sale", "fay", "xan", ("acre",), 7, None),
            ("sale", "fay", "xan", ("fay", "xan"), 0, 10 ** 39),
        ], True)
        self.assert_all(is_paper, [
            ("sale", "fay", "fay", ("acre",), 1, 2),
            ("sale", "fay", "void", ("acre",), 1, 2),
            ("sale", "Fay", "xan", ("acre",), 1, 2),
            ("sale", "fay", None, ("acre",), 1, 2),
            ("sale", "fay", "xan", (), 1, 2),
            ("sale", "fay", "xan", "acre", 1, 2),
            ("sale", "fay", "xan", ["acre"], 1, 2),
            ("sale", "fay", "xan", ("moor", "acre"), 1, 2),
            ("sale", "fay", "xan", ("acre", "acre"), 1, 2),
            ("sale", "fay", "xan", ("acre", 1), 1, 2),
            ("sale", "fay", "xan", ("loan",), 1, 2),
            ("sale", "fay", "xan", ("acre",), 2, 1),
            ("sale", "fay", "xan", ("acre",), -1, 2),
            ("sale", "fay", "xan", ("acre",), None, 2),
            ("sale", "fay", "xan", ("acre",), None, None),
            ("sale", "fay", "xan", ("acre",), 0, True),
            ("sale", "fay", "xan", ("acre",), False, 2),
            ("sale", "fay", "xan", ("acre",), 1, "2"),
            ("sale", "fay", "xan", ("acre",), 1, -1),
            ("sale", "fay", "xan", ("acre",), 1),
            ("sale", "fay", "xan", ("acre",), 1, 2, None),
            list(SALE),
        ], False)

    def test_loans(self):
        self.assert_all(is_paper, [
            LOAN,
            ("loan", "fay", "len", "acre", 1, 0, 0),
            ("loan", "fay", "len", "fay", 10 ** 39, 9, None),
        ], True)
        self.assert_all(is_paper, [
            ("loan", "fay", "fay", "acre", 70, 1, 2),
            ("loan", "fay", "", "acre", 70, 1, 2),
            ("loan", "rule", "len", "acre", 70, 1, 2),
            ("loan", "fay", "len", ("acre",), 70, 1, 2),
            ("loan", "fay", "len", "none", 70, 1, 2),
            ("loan", "fay", "len", "acre", 0, 1, 2),
            ("loan", "fay", "len", "acre", -70, 1, 2),
            ("loan", "fay", "len", "acre", True, 1, 2),
            ("loan", "fay", "len", "acre", None, 1, 2),
            ("loan", "fay", "len", "acre", 70, 2, 1),
            ("loan", "fay", "len", "acre", 70, True, 2),
            ("loan", "fay", "len", "acre", 70, 1),
            ("loan", "fay", "len", "acre", 70, 1, 2, 3),
            list(LOAN),
        ], False)

    def test_releases(self):
        self.assert_all(is_paper, [
            RELEASE,
            ("release", "len", 10 ** 39, 0),
        ], True)
        self.assert_all(is_paper, [
            ("release", "free", 0, 5),
            ("release", None, 0, 5),
            ("release", "len", -1, 5),
            ("release", "len", False, 5),
            ("release", "len", True, 5),
            ("release", "len", None, 5),
            ("release", "len", "0", 5),
            ("release", "len", 0, -1),
            ("release", "len", 0, True),
            ("release", "len", 0, None),
            ("release", "len", 0),
            ("release", "len", 0, 5, None),
            list(RELEASE),
        ], False)

    def test_no_kind_of_paper(self):
        self.assert_all(is_paper, [
            (), ("gift",) + SALE[1:], ("sale",), ("loan",), ("release",), "sale", None, True, [], {}, ((),),
            (True, "fay", "xan", ("acre",), 1, 2), (["sale"], "fay", "xan", ("acre",), 1, 2),
            ("loan",) + SALE[1:], ("sale",) + LOAN[1:], ("release",) + SALE[1:],
        ], False)


class Rolls(Told):
    def roll(self, *papers):
        return ((("acre", "fay"), ("moor", "fay")), papers)

    def test_rolls(self):
        self.assert_all(is_roll, [
            SMALL, WIDE, BARE, self.roll(), self.roll(SALE), self.roll(LOAN, RELEASE),
            self.roll(SALE, LOAN, ("release", "any", 1, 0), ("release", "any", 1, 0)),
            ((("fay", "fay"),), ()),
        ], True)
        self.assert_all(is_roll, made_rolls(60), True)

    def test_rolls_beyond_the_bounds(self):
        firsts = tuple((plot, "fay") for plot in "abcdefg")
        papers = tuple(("sale", "p" + one, "q" + one, ("a",), 0, 10 ** 7) for one in "abcdefghij" * 5)
        self.assertIs(is_roll((firsts, papers)), True)

    def test_firsts(self):
        for firsts in (
            (), [], [("acre", "fay")], ("acre", "fay"), (["acre", "fay"],), (("acre",),), (("acre", "fay", "xan"),),
            (("moor", "fay"), ("acre", "fay")), (("acre", "fay"), ("acre", "gil")), (("acre", "fay"), ("acre", "fay")),
            (("acre", "void"),), (("void", "fay"),), (("acre", None),), ((1, "fay"),), None, {"acre": "fay"}, ((),),
            (("acre", "fay"), None), (None, ("acre", "fay")),
        ):
            self.assertIs(is_roll((firsts, ())), False, firsts)

    def test_papers(self):
        self.assert_all(is_roll, [
            self.roll(()), self.roll(None), self.roll(list(SALE)), self.roll("sale"), (BARE[0], []), (BARE[0], None),
            (BARE[0], [SALE]), (BARE[0], {}),
        ], False)

    def test_all_plots_are_among_those_of_firsts(self):
        self.assert_all(is_roll, [
            (BARE[0], (SALE,)),
            self.roll(("sale", "fay", "xan", ("acre", "glen"), 1, 2)),
            self.roll(("sale", "fay", "xan", ("fay",), 1, 2)),
            self.roll(("loan", "fay", "len", "glen", 70, 1, 2)),
        ], False)

    def test_a_release_is_of_a_loan_ahead_of_it(self):
        self.assert_all(is_roll, [
            self.roll(RELEASE),
            self.roll(RELEASE, LOAN),
            self.roll(SALE, RELEASE),
            self.roll(LOAN, ("release", "len", 1, 5)),
            self.roll(LOAN, ("release", "len", 2, 5), LOAN),
            self.roll(LOAN, RELEASE, ("release", "len", 1, 5)),
            self.roll(LOAN, ("release", "len", 10 ** 39, 5)),
        ], False)

    def test_no_pair(self):
        self.assert_all(is_roll, [(), (BARE[0],), BARE + ((),), list(BARE), None, True, "roll", {}, [], BARE[0]], False)


class AnyValue(Told):
    TELLING = (is_integer, is_name, is_day, is_paper, is_roll, is_rule, is_word, is_truth)

    def test_odd_values_are_told_by_true_or_false(self):
        for tells in self.TELLING:
            for thing in odd_values():
                self.assertIsInstance(tells(thing), bool)

    def test_what_odd_values_are(self):
        def found(tells):
            return [thing for thing in odd_values() if tells(thing)]

        self.assertEqual(found(is_integer), [0, 1, -1, 2, 10 ** 39, -(10 ** 39)])
        self.assertEqual(found(is_day), [0, 1, 2, 10 ** 39])
        self.assertEqual(found(is_name), ["a", "acre", "fay", "nobody"])
        self.assertEqual(found(is_word), ["sound"])
        self.assertEqual(found(is_truth), [(), (0,), tuple(range(2900))])
        self.assertEqual(found(is_rule), [("drawn", "never")])
        self.assertEqual(found(is_paper), [SMALL[1][0]])
        self.assertEqual(found(is_roll), [SMALL])

    def test_right_values_with_a_part_exchanged_left_out_or_added(self):
        for thing in (SALE, LOAN, RELEASE, SMALL, WIDE, ("drawn", "never"), (0, 3, 8)):
            for other in spoiled(thing):
                for tells in self.TELLING:
                    self.assertIsInstance(tells(other), bool)

    def test_deep_and_large_values(self):
        large = [[0] * 50 for _ in range(58)]
        for thing in (deep(29), large, tuple(tuple(row) for row in large), {1: {2: {3: deep(26)}}}):
            self.assert_all(is_roll, [thing, (thing, ()), (BARE[0], thing)], False)
            self.assert_all(is_paper, [thing, SALE[:3] + (thing,) + SALE[4:]], False)

    def test_nothing_is_changed_and_answers_stay(self):
        for tells in self.TELLING:
            for thing in odd_values():
                before = repr(thing)
                first = tells(thing)
                self.assertIs(tells(copy.deepcopy(thing)), first)
                self.assertEqual(repr(thing), before)

    def test_the_functions_are_those_of_the_file(self):
        for tells in self.TELLING:
            self.assertEqual(tells.__module__, forms.__name__)


if __name__ == "__main__":
    unittest.main()
