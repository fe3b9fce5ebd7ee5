"""[101], with [100]; [3] and [4] as far as they speak of them."""

import random
import unittest

from samples import BARE, RULES, SMALL, WIDE, long_roll, made_cases, made_rolls
from soundtitle.cases import Case
from soundtitle.errors import NoText
from soundtitle.forms import is_paper, is_roll, is_rule
from soundtitle.notation import show_case, show_lot, show_paper, show_roll, show_rule, show_tree
from soundtitle.readers import read_case, read_lot, read_paper, read_roll, read_rule, read_tree

READERS = (read_paper, read_roll, read_case, read_rule, read_lot, read_tree)
SHOWN = dict(zip(READERS, (show_paper, show_roll, show_case, show_rule, show_lot, show_tree)))
TREE = ("look", 1, ("knows", "bea"), ("look", 0, ("knows", "xan"), None))
CASE = Case(WIDE, {6: "sound", 1: "void"}, ((2, 5, 7), (0, 3)), 12)
# Texts that write something, with what it is and what reads it.
FINE = [
    (read_paper, ("sale", "fay", "xan", ("acre", "moor"), 0, 12)),
    (read_paper, ("sale", "fay", "xan", ("acre",), 0, None)),
    (read_paper, ("loan", "fay", "len", "acre", 70, 3, 4)), (read_paper, ("loan", "fay", "len", "acre", 1, 3, None)),
    (read_paper, ("release", "len", 0, 10)), (read_paper, ("release", "len", 10 ** 39, 10)),
    (read_roll, BARE), (read_roll, SMALL), (read_roll, WIDE),
    (read_case, Case(BARE, {}, (), None)), (read_case, Case(SMALL, {0: "void"}, (), 0)), (read_case, CASE),
    (read_rule, ("drawn", "never")), (read_rule, ("both", "once")),
    (read_lot, ()), (read_lot, ((0, "sound"),)), (read_lot, ((2, "void"), (10, "sound"), (30, "void"))),
    (read_tree, ("knows", "bea")), (read_tree, TREE), (read_tree, ("look", 10, TREE, TREE)),
]
SIGNS = [" ", ",", "-", "\n", "0", "7", "a", "(", ")", "~", "_", "A", "."]


def deep_tree(many, at_word):
    tree = ("knows", "bea")
    for head in range(many):
        tree = ("look", head, tree, None) if at_word == "sound" else ("look", head, ("knows", "bea"), tree)
    return tree


def changed_texts(text):
    """Texts that come from one by leaving out, adding or exchanging a sign, a word or a line."""
    for at in range(len(text)):
        yield text[:at] + text[at + 1:]
        for sign in SIGNS:
            yield text[:at] + sign + text[at:]
            yield text[:at] + sign + text[at + 1:]
    for sign in SIGNS:
        yield text + sign
    for between in (" ", "\n"):
        parts = text.split(between)
        for at, part in enumerate(parts):
            yield between.join(parts[:at] + parts[at + 1:])
            yield between.join(parts[:at] + [part] + parts[at:])
            yield between.join(parts[:at] + parts[at + 1:at + 2] + [part] + parts[at + 2:])
            for word in ("never", "none", "0", "00", "01", "known", "void", "acre", "zoe", "fay", "-", "bound 3"):
                yield between.join(parts[:at] + [word] + parts[at + 1:])


class Read(unittest.TestCase):
    def test_what_is_shown_is_read_as_it_was(self):
        for reader, thing in FINE:
            found = reader(SHOWN[reader](thing))
            self.assertEqual(found, thing)
            self.assertIs(type(found), type(thing))

    def test_made_rolls_and_cases(self):
        for roll in made_rolls(60):
            self.assertEqual(read_roll(show_roll(roll)), roll)
            for paper in roll[1]:
                self.assertEqual(read_paper(show_paper(paper)), paper)
        for arguments in made_cases(60):
            case = Case(*arguments)
            found = read_case(show_case(case))
            self.assertEqual(found, case)
            self.assertEqual([found.doubts(), found.count()], [case.doubts(), case.count()])
            for truth in case.truths()[::9]:
                lot = tuple((doubt[0], "void" if doubt[0] in truth else "sound") for doubt in case.doubts())
                self.assertEqual(read_lot(show_lot(lot)), lot)
        for rule in RULES:
            self.assertEqual(read_rule(show_rule(rule)), rule)

    def test_long_texts(self):
        for seed in range(3):
            case = Case(long_roll(seed), {3: "void"}, ((5, 9), (20, 30, 39)), 7)
            self.assertEqual(read_case(show_case(case)), case)
        for many in (28, 100):
            for word in ("sound", "void"):
                tree = deep_tree(many, word)
                self.assertEqual(read_tree(show_tree(tree)), tree)

    def test_what_is_read_is_shown_as_the_text(self):
        taken = 0
        for reader, thing in FINE:
            for text in changed_texts(SHOWN[reader](thing)):
                try:
                    found = reader(text)
                except NoText:
                    continue
                taken += 1
                self.assertEqual(SHOWN[reader](found), text)
                if reader in (read_paper, read_roll, read_rule):
                    self.assertTrue({read_paper: is_paper, read_roll: is_roll, read_rule: is_rule}[reader](found))
        self.assertGreater(taken, 200)

    def test_no_reader_takes_another_ones_text(self):
        for reader, thing in FINE:
            text = SHOWN[reader](thing)
            for other in READERS:
                # A roll is a Case of which nothing is known.
                if other != reader and not (other == read_case and reader == read_roll):
                    if not (other == read_roll and text == show_roll(BARE)):
                        self.assert_none(other, text)
        self.assertEqual(read_case(show_roll(WIDE)), Case(WIDE, {}, (), None))

    def assert_none(self, reader, text):
        with self.assertRaises(NoText):
            reader(text)


class NoTexts(unittest.TestCase):
    def assert_none(self, reader, *texts):
        for text in texts:
            with self.assertRaises(NoText, msg=text):
                reader(text)

    def test_papers(self):
        self.assert_none(
            read_paper, "", " ", "\n", "-", "sale", "sale fay xan acre 1", "sale fay xan acre 1 2 3",
            "sale fay fay acre 1 2",
            "sale fay xan acre 2 1", "sale fay xan acre,acre 1 2", "sale fay xan moor,acre 1 2", "sale fay xan - 1 2",
            "sale fay xan acre, 1 2", "sale fay xan acre,,moor 1 2", "sale fay xan acre never never",
            "sale fay xan acre 01 2", "sale fay xan acre 1 02", "sale fay xan acre 1 +2", "sale fay xan acre -1 2",
            "sale fay xan acre 1_0 20", "sale fay xan acre 1 2 ", " sale fay xan acre 1 2", "sale fay  xan acre 1 2",
            "sale fay xan acre 1 2\n", "sale fay xan acre\n1 2", "sale fay sale acre 1 2", "sale fay none acre 1 2",
            "sale Fay xan acre 1 2", "sale fay xan acre 1 none", "Sale fay xan acre 1 2", "sale fay 7 acre 1 2",
            "loan fay len acre 0 3 4", "loan fay len acre 00 3 4", "loan fay len acre 5 3",
            "loan fay len acre,moor 5 3 4",
            "loan fay len acre never 3 4", "loan fay fay acre 5 3 4", "loan fay len acre 5 4 3",
            "release len 0", "release len 0 never", "release len never 1", "release len 00 1", "release len -1 1",
            "release len 0 1 2", "release 0 0 1", "bound 3", "first acre fay",
        )

    def test_rolls(self):
        fine = show_roll(SMALL)
        self.assert_none(
            read_roll, "", "\n", fine[:-1], fine + "\n", "\n" + fine, fine + " ", fine + " \n",
            fine.replace("\n", "\n\n"), fine.replace("\n", " \n"),
            fine + "known 0 void\n", fine + "bound 1\n", fine + "first moor gil\n",
            "sale fay xan acre 1 2\nfirst acre fay\n", "sale fay xan acre 1 2\n", "first acre\n",
            "first acre fay fay\n",
            "first acre fay\nfirst acre gil\n", "first moor gil\nfirst acre fay\n", "first acre first\n",
            "first acre fay\nsale fay xan moor 1 2\n", "first acre fay\nrelease len 0 1\n",
            "first acre fay\nsale fay xan acre 1 2\nrelease len 0 3\n", "first acre fay\nloan fay len moor 5 1 2\n",
            "first acre fay\nrelease len 1 3\nloan fay len acre 5 1 2\n", "first acre fay sale fay xan acre 1 2\n",
        )

    def test_cases(self):
        roll = show_roll(SMALL)
        self.assert_none(
            read_case, "", roll[:-1], roll + "known 0\n", roll + "known 2 void\n", roll + "known 0 none\n",
            roll + "known 00 void\n", roll + "known 1 void\nknown 0 void\n", roll + "known 0 void\nknown 0 void\n",
            roll + "known 0 void\nknown 0 sound\n", roll + "known 0 void extra\n", roll + "group 0\n", roll + "group\n",
            roll + "group 1,0\n", roll + "group 0,0\n", roll + "group 0,2\n", roll + "group 0, 1\n", roll + "group -\n",
            roll + "group 0,1\ngroup 0,1\n", roll + "known 0 void\ngroup 0,1\n", roll + "group 0,1,\n",
            roll + "bound\n", roll + "bound none\n", roll + "bound -1\n", roll + "bound 01\n",
            roll + "bound 1\nbound 1\n", roll + "bound 1\nknown 0 void\n", roll + "bound 1\ngroup 0,1\n",
            roll + "bound 1", "bound 1\n",
            "known 0 void\n" + roll, roll + "bound 1\nsale bea fay acre 7 7\n", roll + "\nbound 1\n",
        )
        wide = show_roll(WIDE)
        self.assert_none(read_case, wide + "group 2,5\ngroup 0,3\n", wide + "group 0,3\nknown 1 void\n")

    def test_rules(self):
        self.assert_none(
            read_rule, "", "drawn", "never drawn", "drawn  never", " drawn never", "drawn never ", "drawn never\n",
            "drawn never once", "drawn,never", "first never", "drawn none",
        )

    def test_lots(self):
        self.assert_none(
            read_lot, "", "- ", "-, 0 void", "0", "0 none", "00 void", "0 void,1 void", "0 void,  1 void", "0 void, ",
            "0 void 1 void", "1 void, 0 void", "0 void, 0 void", "0 void, 0 sound", "-1 void", "0 void,", "0 void\n",
            "zero void", "0 void , 1 void", "0 0", ", ", "0 sound void",
        )

    def test_trees(self):
        self.assert_none(
            read_tree, "", "none", "known", "known none", "known known", "known bea bea", "known 5", "known Bea", "bea",
            "paper 1", "paper 1 known bea", "paper 1 ( known bea )", "paper 1 ( none ) ( known bea )",
            "paper 1 ( known bea ) none", "paper 1 ( known bea ) ( )", "paper 01 ( known bea ) ( none )",
            "paper -1 ( known bea ) ( none )", "paper none ( known bea ) ( none )", "paper 1 (known bea) (none)",
            "paper 1 ( known bea ) ( none ) ", "paper 1  ( known bea ) ( none )", "paper 1 ( known bea ) ( none )\n",
            "paper 1 ) known bea ( ( none )", "paper 1 ( known bea ) ( none ) )", "( known bea )", "known bea\n",
            "paper 1 ( known bea ) ( known xan ) ( none )", "paper known bea ( known bea ) ( none )", "none none",
            "paper 1 ( bea ) ( none )", "look 1 ( known bea ) ( none )", "paper paper ( known bea ) ( none )",
        )

    def test_texts_of_any_signs(self):
        source = random.Random(3)
        words = ["first", "sale", "loan", "paper", "known", "none", "(", ")"]
        words += ["acre", "fay", "0", "1", "never", ",", "\n", "-"]
        for _ in range(3000):
            text = source.choice(["", " ", " "]).join(source.choice(words) for _ in range(source.randint(0, 14)))
            for reader in READERS:
                try:
                    self.assertEqual(SHOWN[reader](reader(text)), text)
                except NoText:
                    pass
        for text in ("(" * 3000, "paper 0 ( " * 300, " " * 3000, "known " * 500, "\n" * 3000, ", " * 1500, "7" * 40):
            self.assert_none(read_paper, text)
            for reader in READERS[1:]:
                self.assert_none(reader, text)


if __name__ == "__main__":
    unittest.main()
