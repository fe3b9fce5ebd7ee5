"""[41], with [40]; [3] and [4] as far as they speak of it."""

import itertools
import random
import unittest

from samples import BARE, SMALL, WIDE, all_lots, long_roll, made_cases, odd_values, spoiled
from soundtitle.cases import Case
from soundtitle.errors import Bound, NoTruth
from soundtitle.lots import agrees, found_all, is_lot, least_lots, lot_of

CASE = Case(SMALL, {}, (), None)
GROUPED = Case(WIDE, {1: "void", 6: "sound"}, ((3, 5), (0, 2, 7)), 2)


def heads_of(case):
    return [doubt[0] for doubt in case.doubts()]


class Lots(unittest.TestCase):
    def test_lots(self):
        for case in (CASE, GROUPED, Case(BARE, {}, (), None)):
            for lot in all_lots(heads_of(case)):
                self.assertIs(is_lot(case, lot), True, lot)

    def test_what_is_none(self):
        for thing in (
            None, [], [(0, "void")], ((0, "void"), (0, "void")), ((0, "sound"), (0, "void")),
            ((1, "void"), (0, "void")),
            ((2, "void"),), ((-1, "void"),), ((False, "void"),), ((True, "sound"),), ((0, "Void"),), ((0, None),),
            ((0,),), ((0, "void", "void"),), (0, "void"), ("void",), ([0, "void"],), (("0", "void"),), ((0, ["void"]),),
            {0: "void"}, "0 void", ((0, "void"), None), (((0,), "void"),),
        ):
            self.assertIs(is_lot(CASE, thing), False, thing)

    def test_heads_alone_tell_doubts(self):
        for number, expected in enumerate([True, False, False, True, True, False, False, False]):
            self.assertIs(is_lot(GROUPED, ((number, "void"),)), expected, number)
        # A lot may tell more void doubts than the bound lets.
        self.assertIs(is_lot(GROUPED, ((0, "void"), (3, "void"), (4, "void"))), True)

    def test_any_value(self):
        lots = [repr(lot) for lot in all_lots([0, 1])]
        things = odd_values()
        for lot in all_lots([0, 1]):
            things.extend(spoiled(lot))
        for thing in things:
            self.assertIs(is_lot(CASE, thing), repr(thing) in lots, thing)


class Agrees(unittest.TestCase):
    def test_the_example_of_the_document(self):
        self.assertEqual(lot_of(CASE, (1,)), ((0, "sound"), (1, "void")))

    def test_groups_are_told_by_their_heads(self):
        self.assertEqual(lot_of(GROUPED, (0, 1, 2, 7)), ((0, "void"), (3, "sound"), (4, "sound")))
        self.assertIs(agrees(GROUPED, ((3, "sound"),), (0, 1, 2, 7)), True)
        self.assertIs(agrees(GROUPED, ((3, "void"),), (0, 1, 2, 7)), False)
        self.assertIs(agrees(GROUPED, ((0, "void"), (4, "sound")), (0, 1, 2, 7)), True)
        self.assertIs(agrees(GROUPED, ((0, "void"), (4, "void")), (0, 1, 2, 7)), False)

    def test_all_truths_agree_with_the_empty_lot(self):
        for truth in GROUPED.truths():
            self.assertIs(agrees(GROUPED, (), truth), True)

    def test_a_truth_agrees_with_the_parts_of_its_lot_alone(self):
        for arguments in made_cases(30):
            case = Case(*arguments)
            if len(case.doubts()) <= 5:
                for truth in case.truths():
                    whole = lot_of(case, truth)
                    self.assertIs(is_lot(case, whole), True)
                    self.assertEqual([head for head, _ in whole], [doubt[0] for doubt in case.doubts()])
                    for lot in all_lots(heads_of(case)):
                        self.assertIs(agrees(case, lot, truth), set(lot) <= set(whole))

    def test_any_other_truth_is_refused(self):
        truths = [repr(truth) for truth in GROUPED.truths()]
        for thing in odd_values() + [(True,), (1, 3), (1, 6), (0, 1, 2, 3, 4, 5, 7), [1], (1, 4, 4), (8,)]:
            if repr(thing) not in truths:
                for call in (lambda: lot_of(GROUPED, thing), lambda: agrees(GROUPED, (), thing)):
                    with self.assertRaises(NoTruth) as caught:
                        call()
                    self.assertIs(caught.exception.truth, thing)


class LeastLots(unittest.TestCase):
    def test_those_of_which_no_lesser_part_is_enough(self):
        source = random.Random(1)
        some = ["ann", "bob", "cid", "dan"]
        parts = [part for many in range(5) for part in itertools.combinations(some, many)]
        for _ in range(200):
            # What is enough need not be so with more.
            fine = source.sample(parts, source.randint(0, 9))
            least = [part for part in fine if not any(set(other) < set(part) for other in fine)]
            self.assertEqual(least_lots(some, lambda part: part in fine), sorted(least))
        self.assertEqual(least_lots([], lambda part: True), [()])


class FoundAll(unittest.TestCase):
    def test_words_one_by_one(self):
        self.assertEqual(
            found_all(GROUPED, ((0, "void"), (4, "sound"))), GROUPED.found(7, "void").found(4, "sound")
        )
        self.assertEqual(
            found_all(GROUPED, ((0, "sound"), (3, "void"), (4, "void"))).known(),
            {0: "sound", 1: "void", 2: "sound", 3: "void", 4: "void", 5: "void", 6: "sound", 7: "sound"},
        )

    def test_the_empty_lot(self):
        self.assertEqual(found_all(GROUPED, ()), GROUPED)
        self.assertEqual(found_all(Case(BARE, {}, (), 0), ()), Case(BARE, {}, (), 0))

    def test_truths_are_those_that_agree(self):
        for arguments in made_cases(40):
            case = Case(*arguments)
            for lot in all_lots(heads_of(case))[::7]:
                voids = len([word for _, word in lot if word == "void"])
                if case.most() is not None and voids > case.most():
                    with self.assertRaises(Bound):
                        found_all(case, lot)
                else:
                    found = found_all(case, lot)
                    self.assertEqual(found.truths(), [truth for truth in case.truths() if agrees(case, lot, truth)])
                    self.assertEqual(found.most(), None if case.most() is None else case.most() - voids)

    def test_the_bound(self):
        with self.assertRaises(Bound):
            found_all(GROUPED, ((0, "void"), (3, "void"), (4, "void")))
        self.assertEqual(found_all(GROUPED, ((0, "void"), (3, "void"))).most(), 0)
        self.assertEqual(found_all(CASE, ((0, "void"), (1, "void"))).most(), None)

    def test_all_of_forty_doubts(self):
        roll = long_roll(1)
        for words in (["sound"] * 40, ["void", "sound"] * 20):
            for groups, most in (((), None), (((3, 5), (7, 20, 31)), None), (((0, 39),), 25)):
                case = Case(roll, {}, groups, most)
                lot = tuple((head, words[head]) for head in heads_of(case))
                expected = Case(
                    roll, {number: word for head, word in lot for number in case.doubt_of(head)}, (),
                    None if most is None else most - [word for _, word in lot].count("void"),
                )
                self.assertEqual(found_all(case, lot), expected)
                for order in (lot, lot[::-1], lot[1::2] + lot[::2]):
                    found = case
                    for head, word in order:
                        found = found.found(head, word)
                    self.assertEqual(found, expected)
                    self.assertEqual(list(found.known()), list(range(40)))
                    self.assertEqual([found.truths(), found.doubts()], [expected.truths(), []])
                self.assertEqual([len(case.doubts()), case.known()], [len(lot), {}])

    def test_a_bound_that_is_left_is_told_ahead_of_all_else(self):
        case = Case(long_roll(1), {}, (), 3)
        with self.assertRaises(Bound):
            found_all(case, tuple((head, "void") for head in range(4)))
        self.assertEqual(found_all(case, tuple((head, "void") for head in range(3))).count(), 1)

    def test_forty_doubts(self):
        case = Case(long_roll(2), {}, (), None)
        lot = lot_of(case, tuple(range(0, 40, 2)))
        self.assertEqual(found_all(case, lot[:38]).count(), 4)
        self.assertEqual(found_all(case, lot).truths(), [tuple(range(0, 40, 2))])


if __name__ == "__main__":
    unittest.main()
