"""[111], with [100], [101] and [110]; [3] and [4] as far as they speak of them."""

import random
import unittest

from samples import FORGED, LATER, RULE, RULES, SMALL, lively_roll, odd_values
from soundtitle.book import Book
from soundtitle.desk import Desk
from soundtitle.errors import NoCommand, Nothing, TitleError, Wrong
from soundtitle.fewest import fewest
from soundtitle.healing import least_healing
from soundtitle.looks import looks_needed
from soundtitle.notation import show_case, show_paper, show_rule
from soundtitle.surely import is_sure, possible

FIRSTS = (("acre", "fay"),)
TWO = (("acre", "ann"), ("moor", "ann"))
LINES = ["paper 0 sale fay xan acre 1 2", "paper 1 sale xan bea acre 5 6", "rule entered next"]
DEEDS = [("paper", 0, FORGED), ("paper", 1, LATER), ("rule", RULE)]


def desk_with(*lines, firsts=FIRSTS):
    desk = Desk(firsts)
    for line in lines:
        assert desk.execute(line) == "done", line
    return desk


def told_line(deed):
    """A deed as a line, by the words of [111] once more."""
    kind, *parts = deed
    if kind == "paper":
        return f"paper {parts[0]} {show_paper(parts[1])}"
    if kind == "group":
        return "group " + ",".join(str(number) for number in parts[0])
    if kind == "bound":
        return "bound " + ("none" if parts[0] is None else str(parts[0]))
    if kind == "rule":
        return "rule " + show_rule(parts[0])
    return " ".join(str(part) for part in deed)


class Small(unittest.TestCase):
    def test_the_roll_of_the_document(self):
        desk = desk_with(*LINES)
        for line, text in (
            ("possible acre", "bea fay xan"), ("sure acre bea", "no"), ("sure acre nobody", "no"),
            ("fewest acre", "bea 0, fay 2, xan 1"), ("count", "4"), ("looks acre", "2"), ("healing acre fay", "bea"),
            ("healing acre bea", "fay,xan"), ("healing acre zoe", "bea"),
            ("case", "first acre fay\nsale fay xan acre 1 2\nsale xan bea acre 5 6\n"), ("claims", "-"),
        ):
            self.assertEqual(desk.execute(line), text, line)
        self.assertEqual(desk.book().log(), DEEDS)

    def test_each_deed(self):
        desk = desk_with(
            *LINES, "bound 0", "claim acre bea", "claim acre bea", "free 0", "group 0,1",
            "paper 0 loan fay len acre 5 1 never", "paper 3 release len 0 7", "found 2 sound",
        )
        self.assertEqual(desk.execute("case"), (
            "first acre fay\nloan fay len acre 5 1 never\nsale fay xan acre 1 2\nsale xan bea acre 5 6\n"
            "release len 0 7\nknown 1 sound\nknown 2 sound\nbound 0\n"
        ))
        self.assertEqual([desk.execute("claims"), desk.execute("sure acre bea")], ["acre bea", "yes"])
        self.assertEqual([desk.execute("healing acre bea"), desk.execute("looks acre")], ["-", "0"])
        desk = desk_with("bound none", "bound 12", "claim acre fay", "claim acre fay")
        self.assertEqual([desk.execute("claims"), desk.book().case().most()], ["acre fay; acre fay", 12])

    def test_what_is_refused(self):
        desk = desk_with(*LINES, "bound 0", "claim acre bea", "found 0 sound")
        before = desk.book()
        for line, text in (
            ("paper 3 sale fay xan acre 1 2", "refused NoPaper"), ("paper 0 sale fay xan moor 1 2", "refused Wrong"),
            ("paper 0 release len 0 5", "refused Wrong"), ("found 2 void", "refused NoPaper"),
            ("found 0 void", "refused Known"), ("found 1 void", "refused Bound"), ("group 0,1", "refused NoGroup"),
            ("group 1,2", "refused NoGroup"), ("claim moor bea", "refused NoPlot"), ("free 1", "refused NoClaim"),
            ("bound 1", "refused Broken"), ("claim acre fay", "refused Broken"), ("possible moor", "refused NoPlot"),
            ("sure moor bea", "refused NoPlot"), ("fewest moor", "refused NoPlot"), ("looks moor", "refused NoPlot"),
            ("healing moor bea", "refused NoPlot"),
        ):
            self.assertEqual(desk.execute(line), text, line)
        self.assertEqual([desk.book(), desk.book().log()], [before, before.log()])

    def test_back_and_again(self):
        desk = Desk(FIRSTS)
        self.assertEqual([desk.execute("back"), desk.execute("again")], ["nothing", "nothing"])
        lines = LINES + [
            "bound none", "bound 3", "found 0 void", "paper 2 release len 0 7", "claim acre bea", "free 0",
        ]
        lines.insert(2, "paper 0 loan fay len acre 5 1 never")
        lines[6:8] = ["group 1,2", "found 1 sound", "paper 3 release len 0 7"]
        for line in lines:
            self.assertEqual(desk.execute(line), "done", line)
        for line in lines[::-1]:
            self.assertEqual(desk.execute("back"), line)
        self.assertEqual([desk.execute("back"), desk.book()], ["nothing", Book(FIRSTS)])
        for line in lines:
            self.assertEqual(desk.execute("again"), line)
        self.assertEqual(desk.execute("again"), "nothing")
        self.assertEqual(
            [desk.execute(line) for line in ("back", "bound 2", "again")], ["free 0", "done", "nothing"]
        )

    def test_the_book_is_a_copy(self):
        desk = desk_with(*LINES)
        desk.execute("back")
        book = desk.book()
        self.assertEqual(book.again(), ("rule", RULE))
        book.do(("bound", 0))
        self.assertEqual([len(desk.book()), desk.execute("again"), len(book)], [2, "rule entered next", 4])

    def test_firsts(self):
        for thing in odd_values() + [(("moor", "fay"), ("acre", "gil"))]:
            with self.assertRaises(Wrong) as caught:
                Desk(thing)
            self.assertEqual(caught.exception.place, 0)


class NoCommands(unittest.TestCase):
    def test_lines_that_are_none(self):
        desk = desk_with(*LINES)
        before = desk.book()
        for line in (
            "", " ", "\n", "-", "nothing", "done", "undone", "Back", "back ", " back", "back\n", "again 1", "back back",
            "count ", "count 1", "counts", "case acre", "cases", "claims acre", "claims\n", "possible", "possible ",
            "possible acre moor", "possible  acre", "possible Acre", "possible sale", "possible 7", "possible acre\n",
            "sure acre", "sure acre bea xan", "sure acre none", "sure acre,bea", "fewest", "fewest -", "looks",
            "looks 0", "healing acre", "healing acre fay bea", "healing acre fay,bea", "healing", "case\n", "Count",
            "paper", "paper 0", "paper sale fay xan acre 1 2", "paper 00 sale fay xan acre 1 2",
            "paper -1 sale fay xan acre 1 2", "paper 0  sale fay xan acre 1 2", "paper 0 sale fay fay acre 1 2",
            "paper 0 sale fay xan acre 2 1", "paper 0 sale fay xan acre 1 2 ", "paper 0 sale fay xan acre 01 2",
            "paper 0 known 0 void", "paper 0 first acre fay", "paper none sale fay xan acre 1 2",
            "found", "found 0", "found 0 ", "found 00 void", "found 0 none", "found 0 void void", "found -1 void",
            "found void 0", "found 0  void", "group", "group 0", "group 1,0", "group 0,0", "group 0 1", "group 0, 1",
            "group 0,1,", "group 00,1", "group -", "group 0,none", "bound", "bound ", "bound -1", "bound never",
            "bound 01", "bound 1 2", "bound None", "bound +1", "rule", "rule drawn", "rule never drawn",
            "rule drawn,never", "rule drawn never never", "rule  drawn never", "claim", "claim acre",
            "claim acre bea xan", "claim acre void", "claim 0 bea",
            "claim acre  bea", "free", "free none", "free -1", "free 00", "free 0 1", "free acre",
            "0 sound, 1 void", "known bea", "first acre fay", "bound 1\n", "rule drawn never\n", "free 0\nfree 0",
        ):
            with self.assertRaises(NoCommand, msg=line):
                desk.execute(line)
        self.assertEqual([desk.book(), desk.book().log()], [before, before.log()])

    def test_any_signs(self):
        desk = desk_with(*LINES)
        source = random.Random(4)
        words = ["paper", "found", "group", "0", "0,1", "sure", "acre", "none", "sale", "fay", "", "(", "\n", "~"]
        for _ in range(2000):
            line = " ".join(source.choice(words) for _ in range(source.randint(0, 5)))
            try:
                self.assertIsInstance(desk.execute(line), str)
            except NoCommand:
                pass
        for line in ("~" * 3000, " " * 3000, "paper 0 " * 300, "7" * 40, "group " + ",".join(map(str, range(800)))):
            try:
                self.assertTrue(desk.execute(line).startswith("refused"))
            except NoCommand:
                pass


class Held(unittest.TestCase):
    """Desks, held against Books and the functions that they ask."""

    def made_deed(self, source, book, paper):
        many = len(book.case().roll()[1])
        return source.choice([
            ("paper", many, paper), ("paper", source.randint(0, many + 1), paper),
            ("found", source.randint(0, many), source.choice(["sound", "void"])),
            ("group", tuple(sorted(source.sample(range(many + 3), 2)))), ("bound", source.choice([None, 0, 1, 2, 11])),
            ("rule", source.choice(RULES)), ("free", source.randint(0, 2)),
            ("claim", source.choice(["acre", "moor", "weir"]), source.choice(["ann", "bob"])),
        ])

    def test_deeds(self):
        source = random.Random(21)
        for _ in range(25):
            desk, book = Desk(TWO), Book(TWO)
            papers = lively_roll(source, 6)[1]
            for turn in range(25):
                if source.random() < 0.2:
                    self.assert_turned(desk, book, source.choice(["back", "again"]))
                elif len(book.case().roll()[1]) < 6:
                    deed = self.made_deed(source, book, papers[turn % 6])
                    try:
                        book.do(deed)
                        expected = "done"
                    except TitleError as error:
                        expected = f"refused {type(error).__name__}"
                    self.assertEqual(desk.execute(told_line(deed)), expected)
                self.assertEqual([desk.book(), desk.book().log()], [book, book.log()])
            self.assert_answers(desk, book)

    def assert_turned(self, desk, book, word):
        try:
            expected = told_line(book.back() if word == "back" else book.again())
        except Nothing:
            expected = "nothing"
        self.assertEqual(desk.execute(word), expected)

    def assert_answers(self, desk, book):
        case, rule = book.case(), book.rule()
        self.assertEqual(desk.execute("count"), str(case.count()))
        self.assertEqual(desk.execute("case"), show_case(case))
        self.assertEqual(desk.execute("claims"), "; ".join(f"{a} {b}" for a, b in book.claims()) or "-")
        for plot in ("acre", "moor"):
            self.assertEqual(desk.execute(f"possible {plot}"), " ".join(possible(case, plot, rule)))
            least = fewest(case, plot, rule).items()
            self.assertEqual(desk.execute(f"fewest {plot}"), ", ".join(f"{name} {many}" for name, many in least))
            self.assertEqual(desk.execute(f"looks {plot}"), str(looks_needed(case, plot, rule)))
            for name in ("ann", "bob", "cid", "zoe"):
                word = "yes" if is_sure(case, plot, rule, name) else "no"
                self.assertEqual(desk.execute(f"sure {plot} {name}"), word)
                lots = "; ".join(",".join(lot) or "-" for lot in least_healing(case, plot, rule, name, []))
                self.assertEqual(desk.execute(f"healing {plot} {name}"), lots)

    def test_several_least_lots(self):
        desk = desk_with(
            "paper 0 sale fay xan acre 1 2", "found 0 void", "rule entered next", "paper 1 sale xan bea acre 5 6",
        )
        self.assertEqual(desk.execute("healing acre zoe"), "; ".join(
            ",".join(lot) for lot in least_healing(desk.book().case(), "acre", RULE, "zoe", [])
        ))
        desk = desk_with("paper 0 sale fay xan acre 1 2", "found 0 void", "rule entered next")
        self.assertEqual(desk.execute("healing acre zoe"), "fay; xan")
        self.assertEqual(show_case(desk.book().case()), desk.execute("case"))
        self.assertEqual(desk.book().case().roll(), (SMALL[0], SMALL[1][:1]))


if __name__ == "__main__":
    unittest.main()
