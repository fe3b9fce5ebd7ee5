"""[76], with [7]; [3] and [4] as far as they speak of it."""

import unittest

from samples import BARE, RULE, asked, lively, told_standing, told_states, told_truths
from soundtitle.cases import Case
from soundtitle.loans import ends, ranks
from soundtitle.money import least_paid, most_paid, paid, together

FIRST = (("acre", "fay"),)
LOANS = (
    ("loan", "fay", "len", "acre", 10, 1, 9), ("loan", "fay", "moe", "acre", 5, 2, 3),
    ("loan", "fay", "len", "acre", 7, 3, None), ("loan", "fay", "bea", "acre", 1, 4, 9),
)
ROLL = (FIRST, LOANS)


def told_paid(roll, rule, end, amount):
    """What is paid by the words of [76] once more: coin by coin."""
    name, loans = end
    found = {}
    owed = [roll[1][number][2] for number in ranks(roll, rule, loans) for _ in range(roll[1][number][4])]
    for at in range(amount):
        one = owed[at] if at < len(owed) else name
        found[one] = found.get(one, 0) + 1
    return found


class Paid(unittest.TestCase):
    def test_in_the_order_of_ranks(self):
        # By "entered": 1, 0, 3, 2; by "drawn": 0, 1, 2, 3.
        end = ("fay", (0, 1, 2, 3))
        self.assertEqual(paid(ROLL, RULE, end, 4), {"moe": 4})
        self.assertEqual(paid(ROLL, RULE, end, 5), {"moe": 5})
        self.assertEqual(paid(ROLL, RULE, end, 6), {"len": 1, "moe": 5})
        self.assertEqual(paid(ROLL, RULE, end, 16), {"bea": 1, "len": 10, "moe": 5})
        self.assertEqual(paid(ROLL, RULE, end, 20), {"bea": 1, "len": 14, "moe": 5})
        self.assertEqual(paid(ROLL, RULE, end, 23), {"bea": 1, "len": 17, "moe": 5})
        self.assertEqual(list(paid(ROLL, RULE, end, 25).items()), [("bea", 1), ("fay", 2), ("len", 17), ("moe", 5)])
        self.assertEqual(paid(ROLL, ("drawn", "next"), end, 12), {"len": 10, "moe": 2})

    def test_amounts_of_none_and_of_more_than_all(self):
        self.assertEqual(paid(ROLL, RULE, ("fay", (0, 1)), 0), {})
        self.assertEqual(paid(ROLL, RULE, ("fay", ()), 0), {})
        self.assertEqual(paid(ROLL, RULE, ("fay", ()), 10 ** 6), {"fay": 10 ** 6})
        self.assertEqual(paid(ROLL, RULE, ("fay", (1,)), 10 ** 6), {"fay": 10 ** 6 - 5, "moe": 5})

    def test_the_holder_and_lenders_that_are_one(self):
        self.assertEqual(paid(ROLL, RULE, ("len", (0, 1)), 20), {"len": 15, "moe": 5})
        self.assertEqual(paid(ROLL, RULE, ("bea", (3,)), 9), {"bea": 9})
        # Any name may be told as that of an end.
        self.assertEqual(paid(ROLL, RULE, ("zoe", (3,)), 9), {"bea": 1, "zoe": 8})

    def test_all_amounts(self):
        for rule in (RULE, ("drawn", "never")):
            for end in (("fay", (0, 1, 2, 3)), ("len", (1, 2)), ("zoe", (2,))):
                for amount in range(30):
                    found = paid(ROLL, rule, end, amount)
                    self.assertEqual(list(found.items()), sorted(told_paid(ROLL, rule, end, amount).items()))
                    self.assertEqual(sum(found.values()), amount)

    def test_what_is_returned_is_new(self):
        paid(ROLL, RULE, ("fay", (0, 1)), 20).clear()
        self.assertEqual(paid(ROLL, RULE, ("fay", (0, 1)), 20), {"fay": 5, "len": 10, "moe": 5})


class OfAllTruths(unittest.TestCase):
    def test_a_loan_that_is_doubtful(self):
        case = Case((FIRST, LOANS[:2]), {1: "sound"}, (), None)
        self.assertEqual(list(least_paid(case, "acre", RULE, 8).items()), [("fay", 0), ("len", 0), ("moe", 5)])
        self.assertEqual(list(most_paid(case, "acre", RULE, 8).items()), [("fay", 3), ("len", 3), ("moe", 5)])
        self.assertEqual(together(case, "acre", RULE, 8, ["fay", "len"]), (3, 3))
        self.assertEqual(together(case, "acre", RULE, 8, ["len"]), (0, 3))
        self.assertEqual(together(case, "acre", RULE, 8, ["len", "moe", "len"]), (5, 8))
        self.assertEqual(together(case, "acre", RULE, 8, []), (0, 0))
        self.assertEqual(together(case, "acre", RULE, 8, ["zoe"]), (0, 0))
        self.assertEqual(together(case, "acre", RULE, 8, ["zoe", "moe"]), (5, 5))

    def test_amounts_of_none_and_of_more_than_all(self):
        case = Case(ROLL, {}, (), None)
        self.assertEqual([least_paid(case, "acre", RULE, 0), most_paid(case, "acre", RULE, 0)], [{}, {}])
        self.assertEqual(together(case, "acre", RULE, 0, ["fay", "len"]), (0, 0))
        self.assertEqual(least_paid(case, "acre", RULE, 100), {"bea": 0, "fay": 77, "len": 0, "moe": 0})
        self.assertEqual(most_paid(case, "acre", RULE, 100), {"bea": 1, "fay": 100, "len": 17, "moe": 5})
        self.assertEqual(together(case, "acre", RULE, 100, ["len", "bea"]), (0, 18))

    def test_no_papers(self):
        case = Case(BARE, {}, (), None)
        self.assertEqual(least_paid(case, "acre", RULE, 3), {"fay": 3})
        self.assertEqual(most_paid(case, "acre", RULE, 3), {"fay": 3})
        self.assertEqual(together(case, "acre", RULE, 3, ["fay", "fay"]), (3, 3))

    def test_made_cases(self):
        for arguments, plot, rule in lively(80, 7, 10) + asked(15):
            case = Case(*arguments)
            roll = arguments[0]
            some = sorted({
                (told_states(roll, plot, rule, truth)[-1][0], told_standing(roll, plot, rule, truth)[-1])
                for truth in told_truths(*arguments)
            })
            self.assertEqual(ends(case, plot, rule), some)
            for amount in (0, 1, 6, 13, 50):
                tables = [told_paid(roll, rule, end, amount) for end in some]
                names = sorted({name for table in tables for name in table})
                least = [(name, min(table.get(name, 0) for table in tables)) for name in names]
                most = [(name, max(table.get(name, 0) for table in tables)) for name in names]
                self.assertEqual(list(least_paid(case, plot, rule, amount).items()), least)
                self.assertEqual(list(most_paid(case, plot, rule, amount).items()), most)
                for group in (["ann"], ["bob", "ann", "bob"], ["zoe", "dan", "cid"], ["ann", "bob", "cid", "dan"]):
                    before = list(group)
                    sums = [sum(table.get(name, 0) for name in set(group)) for table in tables]
                    self.assertEqual(together(case, plot, rule, amount, group), (min(sums), max(sums)))
                    self.assertEqual(group, before)


if __name__ == "__main__":
    unittest.main()
