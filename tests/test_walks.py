"""[35], with [5], [6] and [11]; [3] and [4] as far as they speak of them."""

import unittest

from samples import BARE, RULE, RULES, SMALL, WIDE, made_rolls, odd_values, told_states, told_truths
from soundtitle.errors import NoPlot, NoTruth
from soundtitle.rolls import plots
from soundtitle.rules import doctrines
from soundtitle.walks import holder, holders, overrides, states


def sale(seller, buyer, drawn, entered):
    return ("sale", seller, buyer, ("acre",), drawn, entered)


def roll_of(*papers):
    return (BARE[0], papers)


def by_prior(roll, truth, forged="never"):
    """Who holds acre by each prior, in the order of PRIORS."""
    return [holder(roll, "acre", (prior, forged), truth) for prior in PRIORS]


PRIORS = ("drawn", "entered", "innocent", "both")
# Two sales by the first holder: the elder one is entered later, or never.
RACE = roll_of(sale("fay", "ann", 1, 9), sale("fay", "bob", 2, 3))


class Example(unittest.TestCase):
    def test_the_example_of_the_document(self):
        self.assertEqual(states(SMALL, "acre", ("entered", "next"), (0,)), [
            ("fay", "fay", ()), ("fay", "fay", ()), ("fay", "xan", ()), ("fay", "xan", ()), ("bea", "bea", ()),
        ])
        self.assertEqual(
            [holder(SMALL, "acre", rule, (0,)) for rule in doctrines()],
            ["fay", "bea", "bea", "fay", "fay", "bea", "bea", "fay", "bea", "bea"],
        )
        self.assertEqual(overrides(SMALL, "acre", ("both", "once"), (0,)), [(2, "fay", "xan")])


class Sound(unittest.TestCase):
    def test_no_papers(self):
        for rule in RULES:
            self.assertEqual(states(BARE, "acre", rule, ()), [("fay", "fay", ())])
            self.assertEqual(overrides(BARE, "acre", rule, ()), [])

    def test_one_sale(self):
        roll = roll_of(sale("fay", "ann", 1, 2))
        self.assertEqual(states(roll, "acre", ("drawn", "never"), ()), [
            ("fay", "fay", ()), ("ann", "fay", ()), ("ann", "ann", ()),
        ])
        for prior in ("entered", "both"):
            self.assertEqual(states(roll, "acre", (prior, "never"), ()), [
                ("fay", "fay", ()), ("ann", "fay", (0,)), ("ann", "ann", ()),
            ])
        self.assertEqual(states(roll, "acre", ("innocent", "never"), ()), [
            ("fay", "fay", ()), ("ann", "fay", ()), ("ann", "ann", ()),
        ])

    def test_a_sale_that_is_never_entered_is_in_no_row(self):
        roll = roll_of(sale("fay", "ann", 1, None))
        for rule in RULES:
            self.assertEqual(states(roll, "acre", rule, ()), [("fay", "fay", ()), ("ann", "fay", ())])

    def test_a_sale_by_somebody_else_does_nothing(self):
        roll = roll_of(sale("gil", "ann", 1, 2))
        for rule in RULES:
            self.assertEqual(states(roll, "acre", rule, ()), [("fay", "fay", ())] * 3)

    def test_two_sales_by_the_same_holder(self):
        # The second one is entered first; both are innocent.
        self.assertEqual(by_prior(RACE, ()), ["ann", "bob", "bob", "bob"])
        self.assertEqual(overrides(RACE, "acre", ("drawn", "never"), ()), [])
        self.assertEqual(overrides(RACE, "acre", ("entered", "never"), ()), [(3, "ann", "bob")])
        self.assertEqual(overrides(RACE, "acre", ("both", "never"), ()), [(3, "ann", "bob")])
        self.assertEqual(overrides(RACE, "acre", ("innocent", "never"), ()), [(2, "ann", "bob")])

    def test_an_override_makes_the_row_bare(self):
        self.assertEqual(states(RACE, "acre", ("entered", "never"), ()), [
            ("fay", "fay", ()), ("ann", "fay", (0,)), ("ann", "fay", (0,)), ("bob", "bob", ()), ("bob", "bob", ()),
        ])

    def test_a_sale_that_is_not_innocent(self):
        # The second sale is drawn behind the entry of the first one.
        roll = roll_of(sale("fay", "ann", 1, 2), sale("fay", "bob", 3, 4))
        self.assertEqual(by_prior(roll, ()), ["ann", "ann", "ann", "ann"])
        # A sale by who is the base, but is not shown: the forged one before it is shown instead.
        roll = roll_of(sale("fay", "xan", 0, 1), sale("fay", "ann", 2, None), sale("fay", "bob", 3, 4))
        self.assertEqual(by_prior(roll, (0,)), ["ann", "bob", "ann", "ann"])

    def test_a_sale_on_the_day_of_an_entry_is_innocent_still(self):
        roll = roll_of(sale("fay", "ann", 1, 2), sale("fay", "bob", 2, 2))
        # At the moment at which it is drawn the base is another one already.
        self.assertEqual(by_prior(roll, ()), ["ann", "ann", "ann", "ann"])
        roll = roll_of(sale("fay", "bob", 2, 2), sale("fay", "ann", 1, None))
        self.assertEqual(by_prior(roll, ()), ["ann", "bob", "bob", "bob"])

    def test_a_number_in_the_row_goes_alone_if_its_seller_is_not_the_base(self):
        roll = roll_of(sale("fay", "ann", 0, 9), sale("ann", "bob", 1, 3), sale("bob", "cid", 2, 8))
        self.assertEqual([row for _, _, row in states(roll, "acre", ("entered", "never"), ())], [
            (), (0,), (0, 1), (0, 1, 2), (0, 2), (0,), (),
        ])
        self.assertEqual(states(roll, "acre", ("entered", "never"), ())[-1], ("cid", "ann", ()))

    def test_the_numbers_up_to_one_of_the_base_go_from_the_row(self):
        # The title comes back to the base, which sells again; that sale is entered first.
        roll = roll_of(sale("fay", "ann", 0, 8), sale("ann", "fay", 1, 9), sale("fay", "bob", 2, 3))
        self.assertEqual(states(roll, "acre", ("both", "never"), ())[3:], [
            ("bob", "fay", (0, 1, 2)), ("bob", "bob", ()), ("bob", "bob", ()), ("bob", "bob", ()),
        ])
        roll = roll_of(
            sale("fay", "ann", 0, 8), sale("ann", "fay", 1, 9), sale("fay", "bob", 2, 3), sale("bob", "cid", 2, 4)
        )
        self.assertEqual([row for _, _, row in states(roll, "acre", ("entered", "never"), ())], [
            (), (0,), (0, 1), (0, 1, 2), (0, 1, 2, 3), (3,), (), (), (),
        ])

    def test_a_number_that_left_the_row_overrides_when_it_is_entered(self):
        roll = roll_of(
            sale("fay", "ann", 0, 8), sale("ann", "fay", 1, 6), sale("fay", "bob", 2, 3), sale("bob", "fay", 4, 5)
        )
        self.assertEqual(states(roll, "acre", ("entered", "never"), ())[-3:], [
            ("fay", "fay", ()), ("fay", "fay", ()), ("ann", "ann", ()),
        ])
        self.assertEqual(overrides(roll, "acre", ("entered", "never"), ()), [(8, "fay", "ann")])

    def test_an_override_of_who_is_the_holder_already(self):
        # Bob holds the plot by a sale that is never entered; another sale to Bob overrides, and nobody loses.
        roll = roll_of(sale("fay", "bob", 1, None), sale("fay", "bob", 2, 3), sale("bob", "cid", 4, 9))
        for prior in ("entered", "innocent", "both"):
            self.assertEqual(overrides(roll, "acre", (prior, "never"), ()), [])
            self.assertEqual(states(roll, "acre", (prior, "never"), ())[3], ("bob", "bob", ()))
        # The row is made bare all the same.
        roll = roll_of(sale("fay", "ann", 0, 9), sale("ann", "bob", 1, 8), sale("fay", "bob", 2, 3))
        self.assertEqual(states(roll, "acre", ("entered", "never"), ())[3:5], [
            ("bob", "fay", (0, 1)), ("bob", "bob", ()),
        ])
        self.assertEqual(overrides(roll, "acre", ("entered", "never"), ()), [])


class Void(unittest.TestCase):
    def test_a_void_sale_does_nothing_when_it_is_drawn(self):
        roll = roll_of(sale("fay", "ann", 1, 2))
        for rule in RULES:
            self.assertEqual(states(roll, "acre", rule, (0,))[1], ("fay", "fay", ()))

    def test_the_base_behind_a_void_sale(self):
        roll = roll_of(sale("fay", "xan", 1, 2))
        for prior in PRIORS:
            self.assertEqual(states(roll, "acre", (prior, "never"), (0,))[-1], ("fay", "fay", ()))
            self.assertEqual(states(roll, "acre", (prior, "next"), (0,))[-1], ("fay", "xan", ()))
        self.assertEqual(by_prior(roll, (0,), "once"), ["fay", "xan", "xan", "xan"])
        self.assertEqual(overrides(roll, "acre", ("drawn", "once"), (0,)), [])
        self.assertEqual(overrides(roll, "acre", ("innocent", "once"), (0,)), [(2, "fay", "xan")])

    def test_a_void_sale_that_is_not_innocent(self):
        # It is drawn while fay is shown no more, and entered when fay is the base again.
        roll = roll_of(sale("fay", "ann", 0, 0), sale("fay", "xan", 1, 3), sale("ann", "fay", 2, 2))
        self.assertEqual(by_prior(roll, (1,), "once"), ["fay", "fay", "fay", "fay"])
        self.assertEqual(by_prior(roll, (1,), "next"), ["fay", "fay", "fay", "fay"])
        self.assertEqual(states(roll, "acre", ("entered", "once"), (1,))[-1], ("fay", "xan", ()))
        self.assertEqual(states(roll, "acre", ("entered", "never"), (1,))[-1], ("fay", "fay", ()))

    def test_a_void_sale_makes_the_row_bare_where_it_overrides(self):
        roll = roll_of(sale("fay", "ann", 0, 9), sale("fay", "xan", 1, 2))
        for prior in ("entered", "both"):
            self.assertEqual(states(roll, "acre", (prior, "once"), (1,))[2:4], [
                ("ann", "fay", (0,)), ("xan", "xan", ()),
            ])
            self.assertEqual(states(roll, "acre", (prior, "next"), (1,))[2:4], [
                ("ann", "fay", (0,)), ("ann", "xan", (0,)),
            ])

    def test_a_void_sale_that_is_never_entered(self):
        roll = roll_of(sale("fay", "xan", 1, None), sale("xan", "bea", 2, 3))
        for rule in RULES:
            self.assertEqual(holder(roll, "acre", rule, (0,)), "fay")
            self.assertEqual(holder(roll, "acre", rule, (0, 1)), "fay")


class Plots(unittest.TestCase):
    def test_each_plot_by_itself(self):
        self.assertEqual(holders(WIDE, ("drawn", "never"), ()), {"acre": "fay", "moor": "bea"})
        self.assertEqual(holders(WIDE, ("drawn", "never"), (3,)), {"acre": "fay", "moor": "gil"})
        self.assertEqual(holders(WIDE, ("drawn", "never"), (3, 6)), {"acre": "xan", "moor": "gil"})
        self.assertEqual(list(holders(WIDE, RULE, ())), ["acre", "moor"])

    def test_loans_and_releases_change_no_states(self):
        roll = roll_of(("loan", "fay", "len", "acre", 5, 1, 2), ("release", "len", 0, 3))
        for rule in RULES:
            for truth in ((), (0,), (1,), (0, 1)):
                self.assertEqual(states(roll, "acre", rule, truth), [("fay", "fay", ())] * 4)

    def test_holders_is_holder_of_each_plot(self):
        for rule in RULES:
            for truth in ((), (1,), (3,), (1, 3, 6)):
                self.assertEqual(
                    holders(WIDE, rule, truth), {plot: holder(WIDE, plot, rule, truth) for plot in ("acre", "moor")}
                )

    def test_what_is_returned_is_new(self):
        for call in (states, overrides):
            call(SMALL, "acre", ("both", "once"), (0,)).clear()
            self.assertNotEqual(call(SMALL, "acre", ("both", "once"), (0,)), [])
        holders(SMALL, RULE, ()).clear()
        self.assertEqual(holders(SMALL, RULE, ()), {"acre": "bea"})


class MadeRolls(unittest.TestCase):
    def test_states_by_all_rules(self):
        for roll in made_rolls(50):
            for truth in told_truths(roll, {}, (), None)[::3]:
                for plot in plots(roll):
                    for rule in RULES:
                        self.assertEqual(states(roll, plot, rule, truth), told_states(roll, plot, rule, truth))

    def test_overrides_are_the_losses_that_no_sale_by_the_holder_made(self):
        for roll in made_rolls(40):
            for truth in told_truths(roll, {}, (), None)[::5]:
                for plot in plots(roll):
                    for rule in RULES:
                        self.assert_overrides(roll, plot, rule, truth)

    def assert_overrides(self, roll, plot, rule, truth):
        line = states(roll, plot, rule, truth)
        moved = [
            (place, line[place - 1][0], line[place][0])
            for place in range(1, len(line)) if line[place - 1][0] != line[place][0]
        ]
        found = overrides(roll, plot, rule, truth)
        self.assertEqual([row for row in moved if row in found], found)
        sold = [row for row in moved if row not in found]
        for _, seller, buyer in sold:
            papers = [paper for number, paper in enumerate(roll[1]) if number not in truth]
            self.assertTrue(any(paper[:3] == ("sale", seller, buyer) for paper in papers))
        if rule[0] == "drawn":
            self.assertEqual(found, [])


class Refused(unittest.TestCase):
    def test_any_other_plot_is_refused_ahead_of_the_truth(self):
        for call in (states, holder, overrides):
            for thing in odd_values():
                if thing != "acre":
                    for truth in ((), None, (2,)):
                        with self.assertRaises(NoPlot) as caught:
                            call(SMALL, thing, RULE, truth)
                        self.assertIs(caught.exception.plot, thing)

    def test_any_value_that_is_no_truth_of_the_roll_is_refused(self):
        odd = [(2,), (0, 2), (1, 0), (0, 0), (-1,), (True,), (False,), (0, True), [0], [], {0: 1}, "0", (10 ** 39,)]
        for thing in odd + odd_values():
            # By their texts: (True,) is equal to (1,).
            if repr(thing) in ("()", "(0,)", "(1,)", "(0, 1)"):
                continue
            for call in (states, holder, overrides):
                with self.assertRaises(NoTruth) as caught:
                    call(SMALL, "acre", RULE, thing)
                self.assertIs(caught.exception.truth, thing)
            with self.assertRaises(NoTruth) as caught:
                holders(SMALL, RULE, thing)
            self.assertIs(caught.exception.truth, thing)

    def test_a_roll_without_papers_has_one_truth(self):
        for thing in ((0,), (1,), None):
            with self.assertRaises(NoTruth):
                holder(BARE, "acre", RULE, thing)


if __name__ == "__main__":
    unittest.main()
