"""[51], [3] and [4], of all functions that are handed a Case and a plot."""

import copy
import random
import unittest

from samples import FORGED, RULES, lively, lively_roll, made_shares, odd_values
from soundtitle.cases import Case
from soundtitle.changes import days_safe, holders_changed
from soundtitle.errors import NoPlot
from soundtitle.extracts import behind, extract, is_extract
from soundtitle.fewest import by_word, fewest, least_against, least_truth
from soundtitle.fund import claims_most_of, least_claims, most_claims
from soundtitle.healing import healers, heals, least_healing
from soundtitle.joining import clears, least_clearing
from soundtitle.late import differs, reaches
from soundtitle.loans import always, ends, ends_many, ever
from soundtitle.looks import best_expected, best_looks, is_settled, looks_expected, looks_needed
from soundtitle.losing import brought_back, least_losing, losing
from soundtitle.matters import idle, matters, turned_by, turns
from soundtitle.money import least_paid, most_paid, together
from soundtitle.notes import least_telling
from soundtitle.numbers import holders_many, numbers
from soundtitle.odds import odds
from soundtitle.parting import pairs_many, parted_by, parted_many
from soundtitle.rolls import plots
from soundtitle.surely import is_sure, possible, sure_up_to
from soundtitle.trees import best_tree, is_tree
from soundtitle.warrants import is_warrant, shortest_in, warrants, warrants_in

# Functions with what they are asked besides the Case, the plot and the rule; the errors that may come behind NoPlot do.
CALLS = [
    (numbers, ()), (holders_many, ()), (possible, ()), (fewest, ()), (matters, ()), (idle, ()),
    (is_sure, ("ann",)), (sure_up_to, ("bob",)), (least_truth, ("bob",)), (least_against, ("ann",)),
    (losing, ("ann",)), (least_losing, ("bob",)), (brought_back, ("bob",)), (warrants, ("bob",)),
    (is_warrant, ("ann", ((0, "void"),))),
    (by_word, (0, "ann")), (by_word, (None, "ann")), (turned_by, (1,)), (turned_by, ([],)), (turns, (0,)),
    (turns, (True,)), (warrants_in, ("ann", (0,))), (warrants_in, ("ann", None)), (shortest_in, ("bob", (1,))),
    (shortest_in, ("bob", [])),
    (is_settled, ()), (looks_needed, ()), (best_looks, ()), (best_tree, ()), (is_tree, (("knows", "ann"),)),
    (ends, ()), (ends_many, ()), (always, ()), (ever, ()), (least_paid, (5,)), (most_paid, (7,)), (most_paid, (0,)),
    (together, (9, ["bob", "ann", "bob"])), (clears, (["cid", "ann", "bob", "dan"],)), (least_clearing, ()),
    (heals, ("zoe", ["dan", "bob", "cid", "ann"])), (healers, ("ann",)), (healers, ("zoe",)),
    (least_healing, ("bob", ["cid"])), (least_healing, ("zoe", [])),
    (parted_many, (("drawn", "next"),)), (parted_by, (("entered", "once"),)), (pairs_many, (("both", "never"),)),
    (holders_changed, (("innocent", "never"), 3)), (days_safe, (("both", "once"), "ann")),
    (days_safe, (("drawn", "never"), "bob")), (most_claims, ()), (least_claims, ()), (claims_most_of, ()),
    (differs, (0, FORGED)), (differs, (9, None)), (differs, (2, None)), (reaches, (1, FORGED)), (reaches, ([], None)),
    (extract, ("ann",)), (extract, ("dan",)), (is_extract, ("ann", [[(("ann", "ann", ()), ())]])), (behind, ([], None)),
    (behind, (0, (("ann", "ann", ()), ()))), (least_telling, ("bob", ((0, "sound"),), ((1, "void"), (2, "sound")))),
]
SHARES = made_shares(random.Random(6), range(5))
UNLIKELY = {head: (1, 1) for head in range(5)}
WITH_SHARES = (odds, looks_expected, best_expected)
CALLS += [(function, (shares,)) for function in WITH_SHARES for shares in (SHARES, UNLIKELY)]
YES_OR_NO = ("is_sure", "is_warrant", "is_settled", "is_tree", "clears", "heals", "is_extract")


def made_case():
    """A Case of five doubts, of which three may be void."""
    return Case(lively_roll(random.Random(2), 5), {}, (), 3)


def answer(function, case, plot, rule, besides):
    """What a call returns, as it is written, or the class of the error."""
    try:
        return repr(function(case, plot, rule, *copy.deepcopy(besides)))
    except ValueError as error:
        return type(error).__name__


def spoil(thing):
    """Changes what a call returned, wherever it can be."""
    if isinstance(thing, dict):
        for part in thing.values():
            spoil(part)
        thing.clear()
    elif isinstance(thing, (list, tuple)):
        for part in thing:
            spoil(part)
        if isinstance(thing, list):
            thing.append("spoiled")


class Asked(unittest.TestCase):
    def test_any_other_plot_is_refused_ahead_of_any_other_error(self):
        case = made_case()
        for function, besides in CALLS:
            for thing in odd_values() + ["glen", "ann"]:
                if not isinstance(thing, str) or thing not in plots(case.roll()):
                    for rule in RULES[::11]:
                        with self.assertRaises(NoPlot) as caught:
                            function(case, thing, rule, *besides)
                        self.assertIs(caught.exception.plot, thing)

    def test_what_is_returned_may_be_changed(self):
        for rule in RULES[::2]:
            for function, besides in CALLS:
                case = made_case()
                expected = answer(function, made_case(), "acre", rule, besides)
                for _ in range(2):
                    try:
                        spoil(function(case, "acre", rule, *besides))
                    except ValueError:
                        pass
                    self.assertEqual(answer(function, case, "acre", rule, besides), expected, function.__name__)

    def test_no_argument_is_changed(self):
        case = made_case()
        kept = (case.roll(), case.known(), case.groups(), case.most())
        for function, besides in CALLS:
            before = copy.deepcopy(besides)
            answer_now = answer(function, case, "acre", RULES[3], besides)
            try:
                function(case, "acre", RULES[3], *besides)
            except ValueError:
                pass
            self.assertEqual(repr(besides), repr(before))
            self.assertEqual((case.roll(), case.known(), case.groups(), case.most()), kept)
            self.assertEqual(answer(function, case, "acre", RULES[3], besides), answer_now)

    def test_what_was_asked_ahead_changes_nothing(self):
        source = random.Random(8)
        for arguments, _, _ in lively(4, 5, 3):
            case = Case(*arguments)
            questions = [
                (function, plot, rule, besides)
                for function, besides in CALLS for plot in plots(arguments[0]) for rule in RULES[::4]
                # The shares are those of five doubts, and so are the notes.
                if function not in (*WITH_SHARES, least_telling) or len(case.doubts()) == 5
            ]
            for _ in range(2):
                source.shuffle(questions)
                for function, plot, rule, besides in questions:
                    expected = answer(function, Case(*arguments), plot, rule, besides)
                    self.assertEqual(answer(function, case, plot, rule, besides), expected, function.__name__)

    def test_what_is_returned_is_in_order(self):
        case = made_case()
        for rule in RULES:
            for function, besides in CALLS:
                try:
                    found = function(case, "acre", rule, *besides)
                except ValueError:
                    continue
                if function == extract and found is not None:
                    self.assertEqual(found, [sorted(nodes) for nodes in found])
                elif isinstance(found, dict):
                    self.assertEqual(list(found), sorted(found), function.__name__)
                elif isinstance(found, list):
                    self.assertEqual(found, sorted(found), function.__name__)
                if function.__name__ in YES_OR_NO:
                    self.assertIn(repr(found), ("True", "False"))


if __name__ == "__main__":
    unittest.main()
