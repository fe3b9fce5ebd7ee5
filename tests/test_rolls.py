"""[22], with what [2], [3] and [4] say of its functions."""

import copy
import unittest

from samples import BARE, FORGED, LATER, SMALL, WIDE, made_rolls, odd_values, ring_of_persons, spoiled
from soundtitle import rolls
from soundtitle.errors import Clash, Needed, NoPaper, NoPlot, Wrong
from soundtitle.forms import is_paper, is_roll
from soundtitle.rolls import (
    first_of, names, papers_for, plots, plots_of, renamed, with_paper, without_paper,
)

LOAN = ("loan", "fay", "len", "acre", 70, 3, 4)
RELEASE = ("release", "len", 0, 4)


class Refusing(unittest.TestCase):
    def refused(self, error, call, *handed):
        with self.assertRaises(error) as caught:
            call(*handed)
        return caught.exception

    def assert_bears(self, thing, error, call, *handed):
        """That a call raises an error that has the very thing in its one field."""
        found = vars(self.refused(error, call, *handed))
        self.assertEqual(len(found), 1)
        self.assertIs(list(found.values())[0], thing)


class Parts(Refusing):
    def test_plots(self):
        self.assertEqual(plots(SMALL), ["acre"])
        self.assertEqual(plots(WIDE), ["acre", "moor"])

    def test_names(self):
        self.assertEqual(names(BARE), ["fay"])
        self.assertEqual(names(SMALL), ["bea", "fay", "xan"])
        self.assertEqual(names(WIDE), ["bea", "fay", "gil", "len", "moe", "xan", "zoe"])

    def test_a_plot_is_no_person(self):
        roll = ((("acre", "fay"), ("zoe", "fay")), (("loan", "fay", "acre", "zoe", 1, 0, 0),))
        self.assertEqual([plots(roll), names(roll)], [["acre", "zoe"], ["acre", "fay"]])

    def test_first_of(self):
        self.assertEqual([first_of(WIDE, "acre"), first_of(WIDE, "moor")], ["fay", "gil"])

    def test_plots_of(self):
        found = [plots_of(WIDE, number) for number in range(8)]
        self.assertEqual(found, [
            ["acre"], ["acre", "moor"], ["acre"], ["moor"], ["moor"], ["moor"], ["acre"], ["moor"],
        ])

    def test_papers_for(self):
        self.assertEqual(papers_for(WIDE, "acre"), [0, 1, 2, 6])
        self.assertEqual(papers_for(WIDE, "moor"), [1, 3, 4, 5, 7])
        self.assertEqual(papers_for(BARE, "acre"), [])

    def test_any_other_plot_is_refused(self):
        for call in (first_of, papers_for):
            for thing in odd_values():
                if thing != "acre":
                    self.assert_bears(thing, NoPlot, call, SMALL, thing)
            self.assert_bears("moor", NoPlot, call, SMALL, "moor")

    def test_any_other_number_is_refused(self):
        for thing in odd_values():
            if isinstance(thing, bool) or thing not in (0, 1):
                self.assert_bears(thing, NoPaper, plots_of, SMALL, thing)
        self.assert_bears(8, NoPaper, plots_of, WIDE, 8)
        self.assert_bears(0, NoPaper, plots_of, BARE, 0)

    def test_plots_of_and_papers_for_tell_the_same(self):
        for roll in made_rolls(60):
            for plot in plots(roll):
                self.assertEqual(
                    papers_for(roll, plot),
                    [number for number in range(len(roll[1])) if plot in plots_of(roll, number)],
                )


class WithPaper(Refusing):
    def test_ahead_between_and_behind(self):
        sale = ("sale", "bea", "gil", ("acre",), 9, None)
        firsts = SMALL[0]
        self.assertEqual(with_paper(SMALL, 0, sale), (firsts, (sale, FORGED, LATER)))
        self.assertEqual(with_paper(SMALL, 1, sale), (firsts, (FORGED, sale, LATER)))
        self.assertEqual(with_paper(SMALL, 2, sale), (firsts, (FORGED, LATER, sale)))
        self.assertEqual(with_paper(BARE, 0, sale), (firsts, (sale,)))

    def test_releases_are_led_along(self):
        roll = (BARE[0], (LOAN, LOAN, RELEASE, ("release", "len", 1, 7)))
        for at, numbers in ((0, (1, 2)), (1, (0, 2)), (2, (0, 1)), (3, (0, 1)), (4, (0, 1))):
            new = with_paper(roll, at, FORGED)
            self.assertEqual(tuple(paper[2] for paper in new[1] if paper[0] == "release"), numbers, at)
            self.assertEqual(new[1][at], FORGED)
            self.assertTrue(is_roll(new))

    def test_a_release_is_told_with_numbers_as_they_are_then(self):
        roll = (BARE[0], (LOAN, FORGED, LOAN))
        for at in (1, 2, 3):
            self.assertEqual(with_paper(roll, at, RELEASE)[1][at], RELEASE)
        self.assertEqual(with_paper(roll, 3, ("release", "len", 2, 0))[1][3], ("release", "len", 2, 0))
        for at, number in ((0, 0), (1, 1), (2, 1), (2, 2), (2, 3), (3, 1), (3, 3), (1, 10 ** 39)):
            error = self.refused(Wrong, with_paper, roll, at, ("release", "len", number, 0))
            self.assertEqual(error.place, 2)

    def test_a_new_loan_and_its_release(self):
        roll = with_paper(with_paper(SMALL, 1, LOAN), 2, ("release", "len", 1, 4))
        self.assertEqual(with_paper(roll, 0, FORGED)[1][3], ("release", "len", 2, 4))

    def test_what_is_no_number_from_0_to_that_of_papers(self):
        for thing in odd_values():
            if isinstance(thing, bool) or thing not in (0, 1, 2):
                self.assert_bears(thing, NoPaper, with_paper, SMALL, thing, FORGED)
        self.assert_bears(3, NoPaper, with_paper, SMALL, 3, FORGED)
        self.assert_bears(1, NoPaper, with_paper, BARE, 1, FORGED)

    def test_what_is_no_paper(self):
        for thing in odd_values():
            if not is_paper(thing):
                self.assertEqual(self.refused(Wrong, with_paper, SMALL, 1, thing).place, 2)
        for thing in spoiled(FORGED):
            if not is_paper(thing):
                self.assertEqual(self.refused(Wrong, with_paper, SMALL, 2, thing).place, 2)

    def test_no_paper_of_this_roll(self):
        for paper in (
            ("sale", "fay", "xan", ("moor",), 1, 2),
            ("sale", "fay", "xan", ("acre", "moor"), 1, 2),
            ("loan", "fay", "len", "fay", 1, 0, None),
            ("release", "len", 0, 5),
        ):
            self.assertEqual(self.refused(Wrong, with_paper, SMALL, 1, paper).place, 2)

    def test_the_number_is_refused_ahead_of_the_paper(self):
        self.assert_bears("x", NoPaper, with_paper, SMALL, "x", None)
        self.assert_bears(-1, NoPaper, with_paper, SMALL, -1, ("release", "len", 0, 5))


class WithoutPaper(Refusing):
    def test_each_number(self):
        firsts = SMALL[0]
        self.assertEqual(without_paper(SMALL, 0), (firsts, (LATER,)))
        self.assertEqual(without_paper(SMALL, 1), (firsts, (FORGED,)))
        self.assertEqual(without_paper((firsts, (LATER,)), 0), BARE)

    def test_releases_are_led_along(self):
        roll = (BARE[0], (LOAN, FORGED, LOAN, ("release", "len", 2, 4), RELEASE))
        self.assertEqual(without_paper(roll, 1)[1], (LOAN, LOAN, ("release", "len", 1, 4), RELEASE))
        self.assertEqual(without_paper(roll, 3)[1], (LOAN, FORGED, LOAN, RELEASE))
        self.assertEqual(without_paper(roll, 4)[1], (LOAN, FORGED, LOAN, ("release", "len", 2, 4)))

    def test_a_loan_that_is_released_is_needed(self):
        error = self.refused(Needed, without_paper, WIDE, 4)
        self.assertEqual([error.number, error.other], [4, 5])
        error = self.refused(Needed, without_paper, WIDE, 0)
        self.assertEqual([error.number, error.other], [0, 2])
        # A release by another name does nothing, but is one of the loan all the same.
        roll = (BARE[0], (LOAN, FORGED, ("release", "zoe", 0, 0)))
        error = self.refused(Needed, without_paper, roll, 0)
        self.assertEqual([error.number, error.other], [0, 2])

    def test_a_loan_that_is_not_released_is_not_needed(self):
        self.assertEqual(without_paper((BARE[0], (LOAN, FORGED)), 0), (BARE[0], (FORGED,)))

    def test_any_other_number_is_refused(self):
        for thing in odd_values():
            if isinstance(thing, bool) or thing not in (0, 1):
                self.assert_bears(thing, NoPaper, without_paper, SMALL, thing)
        self.assert_bears(8, NoPaper, without_paper, WIDE, 8)
        self.assert_bears(0, NoPaper, without_paper, BARE, 0)
        roll = (BARE[0], (FORGED, LOAN, ("release", "len", 1, 0)))
        self.assert_bears(True, NoPaper, without_paper, roll, True)

    def test_it_takes_back_what_with_paper_does(self):
        sale = ("sale", "ann", "bob", ("acre",), 0, None)
        for roll in made_rolls(80):
            if "acre" not in plots(roll):
                continue
            for at in range(len(roll[1]) + 1):
                longer = with_paper(roll, at, sale)
                self.assertTrue(is_roll(longer))
                self.assertEqual(longer[1][at], sale)
                self.assertEqual(without_paper(longer, at), roll)


class Renamed(Refusing):
    def test_one_name(self):
        self.assertEqual(renamed(SMALL, {"xan": "zoe"}), (
            SMALL[0],
            (("sale", "fay", "zoe", ("acre",), 1, 2), ("sale", "zoe", "bea", ("acre",), 5, 6)),
        ))

    def test_none(self):
        self.assertEqual([renamed(WIDE, {}), renamed(WIDE, {"fay": "fay"})], [WIDE, WIDE])

    def test_all_at_once(self):
        self.assertEqual(renamed(SMALL, {"fay": "xan", "xan": "bea", "bea": "fay"}), (
            (("acre", "xan"),),
            (("sale", "xan", "bea", ("acre",), 1, 2), ("sale", "bea", "fay", ("acre",), 5, 6)),
        ))

    def test_all_kinds_of_papers(self):
        table = {"fay": "gil", "gil": "fay", "len": "lu", "moe": "mo", "zoe": "zo"}
        self.assertEqual(renamed(WIDE, table), (
            (("acre", "gil"), ("moor", "fay")),
            (
                ("loan", "gil", "lu", "acre", 70, 3, 4),
                ("sale", "gil", "xan", ("acre", "moor"), 3, 3),
                ("release", "lu", 0, 4),
                ("sale", "fay", "bea", ("moor",), 2, None),
                ("loan", "fay", "mo", "moor", 1, 0, None),
                ("release", "mo", 4, 0),
                ("sale", "xan", "gil", ("acre",), 3, 9),
                ("release", "zo", 4, 11),
            ),
        ))

    def test_plots_stay(self):
        roll = ((("acre", "fay"), ("fay", "acre")), (("loan", "acre", "fay", "fay", 1, 0, 0),))
        self.assertEqual(renamed(roll, {"fay": "zoe", "acre": "moor"}), (
            (("acre", "zoe"), ("fay", "moor")), (("loan", "moor", "zoe", "fay", 1, 0, 0),),
        ))
        self.assertEqual(renamed(SMALL, {"fay": "acre"})[0], (("acre", "acre"),))

    def test_clashes(self):
        self.assertEqual(self.refused(Clash, renamed, SMALL, {"fay": "xan"}).name, "xan")
        self.assertEqual(self.refused(Clash, renamed, SMALL, {"fay": "new", "bea": "new"}).name, "new")
        self.assertEqual(self.refused(Clash, renamed, SMALL, {"fay": "bea", "bea": "xan"}).name, "xan")
        self.assertEqual(self.refused(Clash, renamed, SMALL, {"fay": "a", "xan": "a", "bea": "a"}).name, "a")
        table = {"xan": "zz", "zoe": "zz", "moe": "aa", "gil": "aa", "fay": "mm", "bea": "mm"}
        self.assertEqual(self.refused(Clash, renamed, WIDE, table).name, "aa")

    def test_it_can_be_taken_back(self):
        for roll in made_rolls(80):
            table = ring_of_persons(roll)
            new = renamed(roll, table)
            self.assertTrue(is_roll(new))
            self.assertEqual(renamed(new, {table[name]: name for name in table}), roll)


class Promises(unittest.TestCase):
    def calls(self, roll):
        return [
            (plots, (roll,)), (names, (roll,)), (first_of, (roll, "acre")), (plots_of, (roll, 1)),
            (papers_for, (roll, "acre")), (with_paper, (roll, 1, FORGED)), (without_paper, (roll, 1)),
            (renamed, (roll, {"fay": "abe"})),
        ]

    def test_no_argument_is_changed_and_what_is_returned_is_new(self):
        for roll in (SMALL, WIDE):
            for call, handed in self.calls(roll):
                before = copy.deepcopy(handed)
                found = call(*handed)
                kept = copy.deepcopy(found)
                if isinstance(found, list):
                    found.append("spoiled")
                self.assertEqual(call(*copy.deepcopy(before)), kept)
                self.assertEqual(call(*handed), kept)
                self.assertEqual(handed, before)

    def test_kinds_of_values(self):
        kinds = [list, list, str, list, list, tuple, tuple, tuple]
        for (call, handed), kind in zip(self.calls(WIDE), kinds):
            self.assertIs(type(call(*handed)), kind, call.__name__)

    def test_the_functions_are_those_of_the_file(self):
        for call, _ in self.calls(SMALL):
            self.assertEqual(call.__module__, rolls.__name__)


if __name__ == "__main__":
    unittest.main()
