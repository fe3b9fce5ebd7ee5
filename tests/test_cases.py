"""[40], with [2], [3] and [4]."""

import copy
import math
import unittest

from samples import BARE, SMALL, WIDE, long_roll, made_cases, odd_values, spoiled, told_doubts, told_truths
from soundtitle.cases import Case
from soundtitle.errors import Bound, Known, NoPaper, NoTruth, NoWord, Wrong

LONG = long_roll(1)
# WIDE has eight papers: one known word of each kind, two groups, a bound.
ARGUMENTS = (WIDE, {1: "void", 6: "sound"}, ((3, 5), (0, 2, 7)), 2)


def told(case):
    """All that a Case tells of itself."""
    return [
        case.roll(), list(case.known().items()), case.groups(), case.most(), case.doubts(), case.truths(), case.count(),
        [case.doubt_of(number) for number in range(len(case.roll()[1]))],
        [case.voids(truth) for truth in case.truths()],
    ]


class Made(unittest.TestCase):
    def assert_wrong(self, place, *arguments):
        with self.assertRaises(Wrong) as caught:
            Case(*arguments)
        self.assertEqual(caught.exception.place, place, arguments)

    def test_the_example_of_the_document(self):
        case = Case(SMALL, {}, (), None)
        self.assertEqual(case.doubts(), [(0,), (1,)])
        self.assertEqual(case.count(), 4)
        self.assertEqual(case.truths(), [(), (0,), (0, 1), (1,)])
        self.assertEqual(case.found(0, "void").count(), 2)
        self.assertEqual(Case(SMALL, {}, ((0, 1),), 0).truths(), [()])

    def test_what_it_keeps(self):
        case = Case(*ARGUMENTS)
        self.assertEqual(case.roll(), WIDE)
        self.assertEqual(case.known(), {1: "void", 6: "sound"})
        self.assertEqual(case.groups(), ((0, 2, 7), (3, 5)))
        self.assertEqual(case.most(), 2)
        self.assertEqual(case.doubts(), [(0, 2, 7), (3, 5), (4,)])
        self.assertIs(Case(SMALL, {}, (), None).most(), None)

    def test_known_words_are_told_in_order(self):
        case = Case(WIDE, {6: "sound", 0: "void", 3: "sound"}, (), None)
        self.assertEqual(list(case.known().items()), [(0, "void"), (3, "sound"), (6, "sound")])
        self.assertEqual(list(case.found(2, "void").known()), [0, 2, 3, 6])

    def test_wrong_rolls(self):
        for thing in odd_values():
            if thing not in (SMALL, BARE):
                self.assert_wrong(0, thing, {}, (), None)
                self.assert_wrong(0, thing, None, None, "")
        self.assert_wrong(0, (BARE[0], (("release", "len", 0, 1),)), {}, (), None)
        self.assert_wrong(0, list(SMALL), {}, (), None)

    def test_wrong_known_words(self):
        for thing in odd_values():
            if thing != {}:
                self.assert_wrong(1, SMALL, thing, (), None)
                self.assert_wrong(1, SMALL, thing, None, -1)
                if not isinstance(thing, (str, bytes)) or thing not in ("sound", "void"):
                    self.assert_wrong(1, SMALL, {0: thing}, (), None)
        for known in ({2: "sound"}, {-1: "void"}, {True: "sound"}, {False: "void"}, {"0": "sound"}, {None: "void"},
                      {0: "sound", 1: "Void"}, {0: "sound", 2: "void"}, {(0,): "sound"}, {0: 1}, {0: True}):
            self.assert_wrong(1, SMALL, known, (), None)
        self.assert_wrong(1, BARE, {0: "sound"}, (), None)
        self.assert_wrong(1, SMALL, [(0, "sound")], (), None)

    def test_wrong_groups(self):
        for thing in odd_values():
            if thing != ():
                self.assert_wrong(2, SMALL, {}, thing, None)
                self.assert_wrong(2, SMALL, {}, thing, -1)
                self.assert_wrong(2, SMALL, {}, (thing,), None)
        for groups in (((0,),), ((1, 0),), ((0, 0),), ((0, 8),), ((-1, 0),), ((0, True),), ((False, 1),), ((0, 1), ()),
                       ((0, 1), (1, 2)), ((0, 1), (0, 1)), ((0, 1, 1),), ([0, 1],), [(0, 1)], ((0, None),), (0, 1),
                       ((0, "1"),), ({0: 1, 1: 2},)):
            self.assert_wrong(2, WIDE, {}, groups, None)
        self.assert_wrong(2, WIDE, {3: "sound"}, ((2, 3),), None)
        self.assert_wrong(2, BARE, {}, ((0, 1),), None)

    def test_groups_that_are_spoiled(self):
        fine = [((0, 1), (2, 3)), ((0, 1),), ((2, 3),), ((2, 3), (0, 1)), ()]
        for thing in spoiled(((0, 1), (2, 3))):
            if repr(thing) not in [repr(one) for one in fine]:
                try:
                    Case(WIDE, {}, thing, None)
                except Wrong as error:
                    self.assertEqual(error.place, 2)
                else:
                    numbers = [number for group in thing for number in group]
                    self.assertEqual(len(set(numbers)), len(numbers), thing)
                    self.assertTrue(all(type(number) is int and 0 <= number < 8 for number in numbers), thing)
                    self.assertTrue(all(len(group) >= 2 and tuple(sorted(group)) == group for group in thing), thing)

    def test_wrong_bounds(self):
        for thing in odd_values():
            if thing is not None and (isinstance(thing, bool) or not isinstance(thing, int) or thing < 0):
                self.assert_wrong(3, SMALL, {}, (), thing)
        for most in (0, 1, 2, 3, 10 ** 39, None):
            self.assertEqual(Case(SMALL, {}, (), most).most(), most)

    def test_what_is_handed_in_may_be_changed_behind(self):
        known = {1: "void"}
        case = Case(SMALL, known, (), None)
        known[0] = "sound"
        known[1] = "sound"
        self.assertEqual([case.known(), case.truths()], [{1: "void"}, [(0, 1), (1,)]])

    def test_no_argument_is_changed(self):
        arguments = copy.deepcopy(ARGUMENTS)
        case = Case(*arguments)
        case.found(4, "void").truths()
        case.truths()
        self.assertEqual(arguments, ARGUMENTS)
        self.assertEqual(list(arguments[1]), [1, 6])

    def test_what_is_returned_may_be_changed(self):
        case = Case(*ARGUMENTS)
        case.known().clear()
        case.known()[0] = "void"
        case.doubts().clear()
        case.truths().clear()
        self.assertEqual(case.known(), {1: "void", 6: "sound"})
        self.assertEqual([len(case.doubts()), len(case.truths()), case.count()], [3, 7, 7])
        self.assertEqual(case, Case(*ARGUMENTS))


class Doubts(unittest.TestCase):
    def test_the_doubt_of_a_paper(self):
        case = Case(*ARGUMENTS)
        self.assertEqual([case.doubt_of(number) for number in range(8)], [
            (0, 2, 7), None, (0, 2, 7), (3, 5), (4,), (3, 5), None, (0, 2, 7),
        ])

    def test_any_other_number_is_refused(self):
        case = Case(SMALL, {0: "void"}, (), None)
        for thing in [2, -1, True, False, 10 ** 39] + odd_values():
            if isinstance(thing, bool) or thing not in (0, 1):
                with self.assertRaises(NoPaper) as caught:
                    case.doubt_of(thing)
                self.assertIs(caught.exception.number, thing)

    def test_made_cases(self):
        for arguments in made_cases(80):
            self.assertEqual(Case(*arguments).doubts(), told_doubts(*arguments[:3]))


class Truths(unittest.TestCase):
    def test_known_words(self):
        self.assertEqual(Case(SMALL, {0: "void"}, (), None).truths(), [(0,), (0, 1)])
        self.assertEqual(Case(SMALL, {0: "sound"}, (), None).truths(), [(), (1,)])
        self.assertEqual(Case(SMALL, {0: "void", 1: "void"}, (), None).truths(), [(0, 1)])
        self.assertEqual(Case(BARE, {}, (), None).truths(), [()])

    def test_known_papers_are_no_void_doubts(self):
        case = Case(SMALL, {0: "void"}, (), 0)
        self.assertEqual([case.truths(), case.count(), case.voids((0,))], [[(0,)], 1, 0])

    def test_a_group_is_one_void_doubt(self):
        case = Case(WIDE, {}, ((0, 1, 2), (3, 4)), 1)
        self.assertEqual(case.truths(), [(), (0, 1, 2), (3, 4), (5,), (6,), (7,)])
        self.assertEqual([case.voids((0, 1, 2)), case.voids(()), case.count()], [1, 0, 6])

    def test_made_cases(self):
        for arguments in made_cases(80):
            case, truths = Case(*arguments), told_truths(*arguments)
            self.assertEqual(case.truths(), truths)
            self.assertEqual(case.count(), len(truths))
            for truth in told_truths(arguments[0], {}, (), None):
                self.assertIs(case.is_truth(truth), truth in truths)
            for truth in truths:
                self.assertEqual(case.voids(truth), len([doubt for doubt in case.doubts() if doubt[0] in truth]))

    def test_forty_doubts(self):
        self.assertEqual(Case(LONG, {}, (), None).count(), 2 ** 40)
        self.assertEqual(Case(LONG, {}, (), 40).count(), 2 ** 40)
        self.assertEqual(Case(LONG, {}, (), 10 ** 39).count(), 2 ** 40)
        self.assertEqual(Case(LONG, {}, (), 39).count(), 2 ** 40 - 1)
        self.assertEqual(Case(LONG, {}, (), 19).count(), sum(math.comb(40, many) for many in range(20)))
        self.assertEqual(Case(LONG, {}, (), 0).truths(), [()])
        self.assertEqual(len(Case(LONG, {}, (), 1).truths()), 41)
        case = Case(LONG, {}, (), None)
        self.assertIs(case.is_truth(tuple(range(40))), True)
        self.assertEqual(case.voids(tuple(range(40))), 40)

    def test_what_is_no_truth(self):
        case = Case(*ARGUMENTS)
        truths = case.truths()
        things = odd_values()
        for truth in truths:
            things.extend(spoiled(truth))
        for thing in things:
            fine = isinstance(thing, tuple) and all(type(part) is int for part in thing) and thing in truths
            self.assertIs(case.is_truth(thing), fine, thing)
            if not fine:
                with self.assertRaises(NoTruth) as caught:
                    case.voids(thing)
                self.assertIs(caught.exception.truth, thing)

    def test_true_is_not_one(self):
        case = Case(SMALL, {}, (), None)
        self.assertIs(case.is_truth((1,)), True)
        for thing in ((True,), (False,), (0, True), (False, 1), [1], [], (1, 0), (1, 1), (2,), (-1,), True, 1, {1: 1}):
            self.assertIs(case.is_truth(thing), False)

    def test_too_many_void_doubts(self):
        case = Case(WIDE, {}, (), 2)
        self.assertIs(case.is_truth((0, 7)), True)
        self.assertIs(case.is_truth((0, 6, 7)), False)
        with self.assertRaises(NoTruth):
            case.voids((0, 6, 7))


class Found(unittest.TestCase):
    def test_the_whole_doubt_is_found(self):
        case = Case(*ARGUMENTS)
        self.assertEqual(
            case.found(5, "void"), Case(WIDE, {1: "void", 3: "void", 5: "void", 6: "sound"}, ((0, 2, 7),), 1)
        )
        self.assertEqual(
            case.found(2, "sound"),
            Case(WIDE, {0: "sound", 1: "void", 2: "sound", 6: "sound", 7: "sound"}, ((3, 5),), 2),
        )
        self.assertEqual(case.found(4, "sound").known(), {1: "void", 4: "sound", 6: "sound"})
        self.assertEqual(case, Case(*ARGUMENTS))

    def test_it_is_like_one_that_is_made_so(self):
        for arguments in made_cases(60):
            roll, known, groups, most = arguments
            case = Case(*arguments)
            for number, doubt in [(number, doubt) for doubt in case.doubts() for number in doubt]:
                for word in ("sound", "void"):
                    if word == "sound" or most != 0:
                        left = most if most is None or word == "sound" else most - 1
                        other = Case(
                            roll, {**known, **dict.fromkeys(doubt, word)},
                            tuple(group for group in groups if group != doubt), left,
                        )
                        self.assertEqual(told(case.found(number, word)), told(other))
                        self.assertTrue(case.found(number, word) == other)
                        self.assertIs(type(case.found(number, word)), Case)

    def test_found_of_found(self):
        case = Case(*ARGUMENTS).found(5, "void").found(4, "sound")
        self.assertEqual(told(case), told(Case(
            WIDE, {1: "void", 3: "void", 4: "sound", 5: "void", 6: "sound"}, ((0, 2, 7),), 1
        )))
        for number in (1, 3, 4, 5, 6):
            with self.assertRaises(Known):
                case.found(number, "void")
        self.assertEqual(case.found(0, "void").most(), 0)
        with self.assertRaises(Bound):
            Case(SMALL, {}, (), 1).found(0, "void").found(1, "void")
        case.found(0, "sound").known().clear()
        self.assertEqual(case.doubts(), [(0, 2, 7)])

    def test_the_bound(self):
        self.assertEqual(Case(SMALL, {}, (), 2).found(0, "void").most(), 1)
        self.assertEqual(Case(SMALL, {}, (), 2).found(0, "sound").most(), 2)
        self.assertIs(Case(SMALL, {}, (), None).found(0, "void").most(), None)
        self.assertEqual(Case(SMALL, {}, (), 0).found(0, "sound").most(), 0)
        with self.assertRaises(Bound):
            Case(SMALL, {}, (), 0).found(0, "void")

    def test_truths_are_those_with_the_word(self):
        for arguments in made_cases(60):
            case = Case(*arguments)
            for doubt in case.doubts():
                for number in doubt:
                    sound = [truth for truth in case.truths() if number not in truth]
                    self.assertEqual(case.found(number, "sound").truths(), sound)
                    if case.most() != 0:
                        void = [truth for truth in case.truths() if number in truth]
                        self.assertEqual(case.found(number, "void").truths(), void)

    def test_errors_in_their_order(self):
        case = Case(SMALL, {0: "void"}, (), 0)
        for thing in odd_values():
            if isinstance(thing, bool) or thing not in (0, 1):
                for word in ("sound", "void", None):
                    with self.assertRaises(NoPaper) as caught:
                        case.found(thing, word)
                    self.assertIs(caught.exception.number, thing)
            if thing not in ("sound", "void"):
                for number in (0, 1):
                    with self.assertRaises(NoWord) as caught:
                        case.found(number, thing)
                    self.assertIs(caught.exception.word, thing)
        for word in ("sound", "void"):
            with self.assertRaises(Known) as caught:
                case.found(0, word)
            self.assertEqual(caught.exception.number, 0)
        with self.assertRaises(Bound):
            case.found(1, "void")
        self.assertEqual(case.found(1, "sound").count(), 1)


class Equal(unittest.TestCase):
    def test_equal_cases(self):
        one = Case(WIDE, {6: "sound", 1: "void"}, ((0, 2, 7), (3, 5)), 2)
        self.assertTrue(one == Case(*ARGUMENTS))
        self.assertFalse(one != Case(*ARGUMENTS))
        self.assertIs(one == Case(*copy.deepcopy(ARGUMENTS)), True)

    def test_unlike_cases(self):
        one = Case(*ARGUMENTS)
        longer = (WIDE[0], WIDE[1] + (("sale", "fay", "xan", ("acre",), 1, 2),))
        for other in (
            (longer,) + ARGUMENTS[1:],
            (WIDE, {1: "void"}) + ARGUMENTS[2:],
            (WIDE, {1: "void", 6: "void"}) + ARGUMENTS[2:],
            ARGUMENTS[:2] + (((3, 5), (0, 2)), 2),
            ARGUMENTS[:2] + (((3, 5),), 2),
            ARGUMENTS[:3] + (1,),
            ARGUMENTS[:3] + (None,),
        ):
            self.assertFalse(one == Case(*other))
            self.assertTrue(one != Case(*other))
        # Bounds that let the same truths are unlike still.
        self.assertFalse(Case(SMALL, {}, (), None) == Case(SMALL, {}, (), 2))

    def test_a_case_is_equal_to_nothing_else(self):
        case = Case(*ARGUMENTS)
        for thing in odd_values() + [ARGUMENTS, WIDE, case.known(), case.truths()]:
            self.assertIs(case == thing, False)
            self.assertIs(thing == case, False)
            self.assertIs(case != thing, True)

    def test_what_was_asked_ahead_changes_nothing(self):
        one = Case(*ARGUMENTS)
        one.found(4, "void")
        one.shelf("key").append(1)
        self.assertTrue(one == Case(*ARGUMENTS))


class Shelf(unittest.TestCase):
    def test_the_list_of_each_key_is_kept(self):
        case = Case(SMALL, {}, (), None)
        one = case.shelf(("acre", 1))
        self.assertEqual(one, [])
        one.append(7)
        self.assertEqual(case.shelf(("acre", 2)), [])
        self.assertIs(case.shelf(("acre", 1)), one)
        self.assertEqual(case.found(0, "sound").shelf(("acre", 1)), [])


if __name__ == "__main__":
    unittest.main()
