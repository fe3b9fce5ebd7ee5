"""[30], with [5]; [3] and [4] as far as they speak of it."""

import unittest

from samples import BARE, SMALL, WIDE, made_rolls, odd_values
from soundtitle.errors import NoPaper, NoPlot
from soundtitle.moments import moments, places_of
from soundtitle.rolls import papers_for, plots


class Moments(unittest.TestCase):
    def test_the_example_of_the_document(self):
        self.assertEqual(
            moments(SMALL, "acre"), [(1, 0, "drawn"), (2, 0, "entered"), (5, 1, "drawn"), (6, 1, "entered")]
        )

    def test_no_papers(self):
        self.assertEqual(moments(BARE, "acre"), [])

    def test_each_kind_of_paper(self):
        self.assertEqual(moments(WIDE, "acre"), [
            (3, 0, "drawn"), (3, 1, "drawn"), (3, 1, "entered"), (3, 6, "drawn"),
            (4, 0, "entered"), (4, 2, "drawn"), (9, 6, "entered"),
        ])
        self.assertEqual(moments(WIDE, "moor"), [
            (0, 4, "drawn"), (0, 5, "drawn"), (2, 3, "drawn"), (3, 1, "drawn"), (3, 1, "entered"), (11, 7, "drawn"),
        ])

    def test_days_are_ordered_as_numbers(self):
        roll = (BARE[0], (
            ("sale", "fay", "xan", ("acre",), 10, 100),
            ("sale", "fay", "xan", ("acre",), 9, None),
        ))
        self.assertEqual(moments(roll, "acre"), [(9, 1, "drawn"), (10, 0, "drawn"), (100, 0, "entered")])

    def test_any_other_plot_is_refused(self):
        for thing in odd_values():
            if thing != "acre":
                with self.assertRaises(NoPlot) as caught:
                    moments(SMALL, thing)
                self.assertIs(caught.exception.plot, thing)

    def test_what_is_returned_is_new(self):
        moments(SMALL, "acre").clear()
        self.assertEqual(len(moments(SMALL, "acre")), 4)


class Places(unittest.TestCase):
    def test_places(self):
        self.assertEqual([places_of(SMALL, "acre", 0), places_of(SMALL, "acre", 1)], [[1, 2], [3, 4]])
        self.assertEqual(
            [places_of(WIDE, "acre", number) for number in range(8)], [[1, 5], [2, 3], [6], [], [], [], [4, 7], []]
        )
        self.assertEqual(
            [places_of(WIDE, "moor", number) for number in range(8)], [[], [4, 5], [], [3], [1], [2], [], [6]]
        )

    def test_places_are_those_of_the_moments(self):
        for roll in made_rolls(60):
            for plot in plots(roll):
                found = {}
                for number in range(len(roll[1])):
                    for place in places_of(roll, plot, number):
                        found[place] = number
                self.assertEqual(
                    [found[place] for place in sorted(found)], [number for _, number, _ in moments(roll, plot)]
                )
                self.assertEqual(sorted(set(found.values())), papers_for(roll, plot))

    def test_any_other_plot_is_refused(self):
        for thing in odd_values():
            if thing != "acre":
                with self.assertRaises(NoPlot) as caught:
                    places_of(SMALL, thing, 0)
                self.assertIs(caught.exception.plot, thing)

    def test_any_other_number_is_refused(self):
        for thing in odd_values():
            if isinstance(thing, bool) or thing not in (0, 1):
                with self.assertRaises(NoPaper) as caught:
                    places_of(SMALL, "acre", thing)
                self.assertIs(caught.exception.number, thing)

    def test_the_plot_is_refused_ahead_of_the_number(self):
        with self.assertRaises(NoPlot):
            places_of(SMALL, None, None)
        with self.assertRaises(NoPaper):
            places_of(BARE, "acre", 0)

    def test_what_is_returned_is_new(self):
        places_of(SMALL, "acre", 0).clear()
        self.assertEqual(places_of(SMALL, "acre", 0), [1, 2])


if __name__ == "__main__":
    unittest.main()
