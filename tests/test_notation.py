"""[100]; [3] as far as it speaks of it."""

import copy
import unittest

from samples import BARE, RULES, SMALL, WIDE, made_cases
from soundtitle.cases import Case
from soundtitle.notation import show_case, show_lot, show_paper, show_roll, show_rule, show_tree

TREE = ("look", 1, ("knows", "bea"), ("look", 0, ("knows", "xan"), None))


class Notation(unittest.TestCase):
    def test_papers(self):
        for paper, text in (
            (("sale", "fay", "xan", ("acre",), 1, 2), "sale fay xan acre 1 2"),
            (("sale", "fay", "xan", ("acre", "glen", "moor"), 0, None), "sale fay xan acre,glen,moor 0 never"),
            (("loan", "fay", "len", "acre", 70, 3, 4), "loan fay len acre 70 3 4"),
            (("loan", "fay", "len", "acre", 10 ** 39, 0, None), f"loan fay len acre 1{'0' * 39} 0 never"),
            (("release", "len", 12, 1000000), "release len 12 1000000"),
        ):
            self.assertEqual(show_paper(paper), text)

    def test_rolls(self):
        self.assertEqual(show_roll(BARE), "first acre fay\n")
        self.assertEqual(show_roll(SMALL), "first acre fay\nsale fay xan acre 1 2\nsale xan bea acre 5 6\n")
        self.assertEqual(show_roll(WIDE), (
            "first acre fay\nfirst moor gil\nloan fay len acre 70 3 4\nsale fay xan acre,moor 3 3\nrelease len 0 4\n"
            "sale gil bea moor 2 never\nloan gil moe moor 1 0 never\nrelease moe 4 0\nsale xan fay acre 3 9\n"
            "release zoe 4 11\n"
        ))

    def test_cases(self):
        self.assertEqual(show_case(Case(BARE, {}, (), None)), "first acre fay\n")
        self.assertEqual(show_case(Case(BARE, {}, (), 0)), "first acre fay\nbound 0\n")
        case = Case(WIDE, {6: "sound", 1: "void"}, ((2, 5, 7), (0, 3)), 12)
        self.assertEqual(
            show_case(case), show_roll(WIDE) + "known 1 void\nknown 6 sound\ngroup 0,3\ngroup 2,5,7\nbound 12\n"
        )

    def test_rules(self):
        self.assertEqual([show_rule(rule) for rule in RULES[:4]], [
            "both never", "both next", "both once", "drawn never",
        ])

    def test_lots(self):
        self.assertEqual(show_lot(()), "-")
        self.assertEqual(show_lot(((7, "void"),)), "7 void")
        self.assertEqual(show_lot(((0, "sound"), (1, "void"))), "0 sound, 1 void")
        self.assertEqual(show_lot(((0, "sound"), (10, "void"), (11, "void"))), "0 sound, 10 void, 11 void")

    def test_trees(self):
        self.assertEqual(show_tree(("knows", "bea")), "known bea")
        self.assertEqual(show_tree(TREE), "paper 1 ( known bea ) ( paper 0 ( known xan ) ( none ) )")
        self.assertEqual(
            show_tree(("look", 3, TREE, ("knows", "zoe"))),
            "paper 3 ( paper 1 ( known bea ) ( paper 0 ( known xan ) ( none ) ) ) ( known zoe )",
        )

    def test_no_argument_is_changed(self):
        for arguments in made_cases(10):
            case, before = Case(*arguments), Case(*copy.deepcopy(arguments))
            show_case(case)
            self.assertEqual(case, before)


if __name__ == "__main__":
    unittest.main()
