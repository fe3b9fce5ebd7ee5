"""[31], with [5]; [3] and [4] as far as they speak of it."""

import unittest

from samples import BARE, FORGED, LATER, SMALL, WIDE, made_rolls, odd_values
from soundtitle.errors import NoPlot, NoSale
from soundtitle.moments import moments
from soundtitle.rolls import first_of, papers_for, plots
from soundtitle.shown import is_innocent, shown_at, shown_on


def sale(seller, buyer, drawn, entered):
    return ("sale", seller, buyer, ("acre",), drawn, entered)


def told_shown(roll, plot, ahead):
    """Who is shown behind so many moments, told by the words of [5] once more."""
    shown = first_of(roll, plot)
    for _, number, word in moments(roll, plot)[:ahead]:
        if word == "entered" and roll[1][number][0] == "sale" and roll[1][number][1] == shown:
            shown = roll[1][number][2]
    return shown


class Shown(unittest.TestCase):
    def test_the_example_of_the_document(self):
        self.assertEqual(shown_at(SMALL, "acre"), ["fay", "fay", "xan", "xan", "bea"])

    def test_no_papers(self):
        self.assertEqual(shown_at(BARE, "acre"), ["fay"])

    def test_a_sale_by_somebody_else_does_nothing(self):
        roll = (BARE[0], (sale("gil", "xan", 0, 1), sale("fay", "bea", 2, 3), sale("fay", "gil", 4, 5)))
        self.assertEqual(shown_at(roll, "acre"), ["fay", "fay", "fay", "fay", "bea", "bea", "bea"])

    def test_a_sale_that_is_never_entered_does_nothing(self):
        roll = (BARE[0], (sale("fay", "xan", 0, None),))
        self.assertEqual(shown_at(roll, "acre"), ["fay", "fay"])

    def test_what_is_entered_counts_in_its_own_order(self):
        roll = (BARE[0], (sale("xan", "bea", 0, 1), sale("fay", "xan", 0, 2)))
        self.assertEqual(shown_at(roll, "acre"), ["fay", "fay", "fay", "fay", "xan"])
        roll = (BARE[0], (sale("fay", "xan", 1, 1), sale("xan", "bea", 1, 1)))
        self.assertEqual(shown_at(roll, "acre"), ["fay", "fay", "xan", "xan", "bea"])
        roll = (BARE[0], (sale("xan", "bea", 1, 1), sale("fay", "xan", 1, 1)))
        self.assertEqual(shown_at(roll, "acre"), ["fay", "fay", "fay", "fay", "xan"])

    def test_loans_and_releases_do_nothing(self):
        self.assertEqual(shown_at(WIDE, "acre"), ["fay", "fay", "fay", "xan", "xan", "xan", "xan", "fay"])
        roll = (BARE[0], (("loan", "fay", "len", "acre", 1, 0, 1), ("release", "len", 0, 2)))
        self.assertEqual(shown_at(roll, "acre"), ["fay", "fay", "fay", "fay"])

    def test_each_plot_by_itself(self):
        self.assertEqual(shown_at(WIDE, "moor"), ["gil"] * 7)
        firsts = (("acre", "fay"), ("moor", "fay"))
        roll = (firsts, (("sale", "fay", "xan", ("acre", "moor"), 0, 2), ("sale", "fay", "bea", ("moor",), 1, 1)))
        self.assertEqual(shown_at(roll, "acre"), ["fay", "fay", "xan"])
        self.assertEqual(shown_at(roll, "moor"), ["fay", "fay", "fay", "bea", "bea"])

    def test_a_title_that_comes_back(self):
        roll = (BARE[0], (sale("fay", "xan", 0, 0), sale("xan", "fay", 1, 1), sale("fay", "bea", 0, 2)))
        self.assertEqual(shown_at(roll, "acre"), ["fay", "fay", "xan", "xan", "xan", "fay", "bea"])

    def test_any_other_plot_is_refused(self):
        for thing in odd_values():
            if thing != "acre":
                with self.assertRaises(NoPlot) as caught:
                    shown_at(SMALL, thing)
                self.assertIs(caught.exception.plot, thing)

    def test_what_is_returned_is_new(self):
        shown_at(SMALL, "acre").clear()
        self.assertEqual(shown_at(SMALL, "acre"), ["fay", "fay", "xan", "xan", "bea"])

    def test_made_rolls(self):
        for roll in made_rolls(60):
            for plot in plots(roll):
                many = len(moments(roll, plot))
                self.assertEqual(
                    shown_at(roll, plot), [told_shown(roll, plot, ahead) for ahead in range(many + 1)]
                )


class ShownOn(unittest.TestCase):
    def test_days_ahead_count_and_the_day_itself_does_not(self):
        found = [shown_on(SMALL, "acre", day) for day in range(9)]
        self.assertEqual(found, ["fay", "fay", "fay", "xan", "xan", "xan", "xan", "bea", "bea"])

    def test_far_days(self):
        self.assertEqual([shown_on(SMALL, "acre", 10 ** 6), shown_on(BARE, "acre", 0)], ["bea", "fay"])

    def test_several_moments_on_one_day(self):
        roll = (BARE[0], (sale("fay", "xan", 3, 3), sale("xan", "bea", 3, 3)))
        self.assertEqual([shown_on(roll, "acre", day) for day in (2, 3, 4)], ["fay", "fay", "bea"])

    def test_any_other_plot_is_refused(self):
        for thing in odd_values():
            if thing != "acre":
                with self.assertRaises(NoPlot) as caught:
                    shown_on(SMALL, thing, 3)
                self.assertIs(caught.exception.plot, thing)

    def test_made_rolls(self):
        for roll in made_rolls(60):
            for plot in plots(roll):
                for day in range(12):
                    ahead = len([row for row in moments(roll, plot) if row[0] < day])
                    self.assertEqual(shown_on(roll, plot, day), told_shown(roll, plot, ahead))


class Innocent(unittest.TestCase):
    def test_the_example_of_the_document(self):
        self.assertIs(is_innocent(SMALL, "acre", 0), True)
        self.assertIs(is_innocent(SMALL, "acre", 1), True)

    def test_a_seller_who_is_not_shown(self):
        roll = (BARE[0], (sale("gil", "xan", 0, 1), sale("fay", "bea", 2, 3), sale("fay", "gil", 4, None)))
        self.assertEqual([is_innocent(roll, "acre", number) for number in range(3)], [False, True, False])
        self.assertIs(is_innocent(roll, "acre", 0), False)

    def test_a_sale_drawn_on_the_day_of_an_entry(self):
        roll = (BARE[0], (FORGED, sale("xan", "bea", 2, 6), sale("fay", "gil", 2, None), sale("xan", "gil", 3, 3)))
        self.assertEqual([is_innocent(roll, "acre", number) for number in range(4)], [True, False, True, True])

    def test_one_sale_of_two_plots(self):
        firsts = (("acre", "fay"), ("moor", "gil"))
        roll = (firsts, (("sale", "fay", "xan", ("acre", "moor"), 0, None),))
        self.assertEqual([is_innocent(roll, "acre", 0), is_innocent(roll, "moor", 0)], [True, False])

    def test_any_other_plot_is_refused(self):
        for thing in odd_values():
            if thing != "acre":
                with self.assertRaises(NoPlot) as caught:
                    is_innocent(SMALL, thing, 0)
                self.assertIs(caught.exception.plot, thing)

    def test_any_other_number_is_refused(self):
        for thing in odd_values():
            if isinstance(thing, bool) or thing not in (0, 1):
                with self.assertRaises(NoSale) as caught:
                    is_innocent(SMALL, "acre", thing)
                self.assertIs(caught.exception.number, thing)

    def test_loans_releases_and_sales_of_other_plots_are_refused(self):
        for plot, numbers in (("acre", (0, 2, 3, 4, 5, 7, 8)), ("moor", (0, 2, 4, 5, 6, 7, 8))):
            for number in numbers:
                with self.assertRaises(NoSale) as caught:
                    is_innocent(WIDE, plot, number)
                self.assertEqual(caught.exception.number, number)
        self.assertEqual([is_innocent(WIDE, "acre", 1), is_innocent(WIDE, "acre", 6)], [True, False])
        self.assertEqual([is_innocent(WIDE, "moor", 1), is_innocent(WIDE, "moor", 3)], [False, True])

    def test_the_plot_is_refused_ahead_of_the_number(self):
        with self.assertRaises(NoPlot):
            is_innocent(SMALL, "moor", None)

    def test_made_rolls(self):
        for roll in made_rolls(60):
            for plot in plots(roll):
                for number in papers_for(roll, plot):
                    paper = roll[1][number]
                    if paper[0] != "sale":
                        continue
                    ahead = len([row for row in moments(roll, plot) if row[0] < paper[4]])
                    self.assertIs(is_innocent(roll, plot, number), told_shown(roll, plot, ahead) == paper[1])

    def test_the_paper_itself_may_stand_twice(self):
        roll = (BARE[0], (FORGED, LATER, FORGED, LATER))
        self.assertEqual([is_innocent(roll, "acre", number) for number in range(4)], [True] * 4)


if __name__ == "__main__":
    unittest.main()
