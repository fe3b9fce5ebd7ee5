"""The interface of the files that have landed, the README's examples, and what can be seen of the language's rules."""

import ast
import builtins
import doctest
import importlib
import inspect
import pathlib
import re
import unittest

ROOT = pathlib.Path(__file__).resolve().parent.parent
PACKAGE = ROOT / "soundtitle"

FUNCTIONS = {
    "forms": {
        "is_integer": "thing", "is_name": "thing", "is_day": "thing", "is_paper": "thing", "is_roll": "thing",
        "is_rule": "thing", "is_word": "thing", "is_truth": "thing",
    },
    "rolls": {
        "plots": "roll", "names": "roll", "first_of": "roll plot", "plots_of": "roll number",
        "papers_for": "roll plot", "with_paper": "roll at paper", "without_paper": "roll number",
        "renamed": "roll table",
    },
    "moments": {"moments": "roll plot", "places_of": "roll plot number"},
    "shown": {"shown_at": "roll plot", "shown_on": "roll plot day", "is_innocent": "roll plot number"},
    "rules": {"rules": "", "same_doctrine": "one other", "doctrines": "", "doctrine_of": "rule"},
    "walks": {
        "states": "roll plot rule truth", "overrides": "roll plot rule truth", "holder": "roll plot rule truth",
        "holders": "roll rule truth",
    },
    "lots": {
        "is_lot": "case thing", "agrees": "case lot truth", "lot_of": "case truth", "found_all": "case lot",
    },
    "numbers": {"numbers": "case plot rule", "holders_many": "case plot rule"},
    "odds": {
        "chance": "case shares", "odds": "case plot rule shares", "added": "one other", "times": "one other",
        "over": "one other",
    },
    "surely": {
        "possible": "case plot rule", "is_sure": "case plot rule name", "sure_up_to": "case plot rule name",
    },
    "fewest": {
        "fewest": "case plot rule", "least_truth": "case plot rule name", "least_against": "case plot rule name",
        "by_word": "case plot rule head name",
    },
    "losing": {
        "losing": "case plot rule name", "least_losing": "case plot rule name", "brought_back": "case plot rule name",
    },
    "warrants": {
        "warrants": "case plot rule name", "is_warrant": "case plot rule name thing",
        "warrants_in": "case plot rule name truth", "shortest_in": "case plot rule name truth",
    },
    "matters": {
        "matters": "case plot rule", "idle": "case plot rule", "turned_by": "case plot rule head",
        "turns": "case plot rule head",
    },
    "looks": {
        "is_settled": "case plot rule", "looks_needed": "case plot rule", "best_looks": "case plot rule",
        "looks_expected": "case plot rule shares", "best_expected": "case plot rule shares",
    },
    "trees": {
        "is_tree": "case plot rule thing", "best_tree": "case plot rule", "depth": "tree",
        "told_by": "tree case truth", "lots_of": "tree",
    },
    "loans": {
        "standing": "roll plot rule truth", "ranks": "roll rule loans", "ends": "case plot rule",
        "ends_many": "case plot rule", "always": "case plot rule", "ever": "case plot rule",
    },
    "money": {
        "paid": "roll rule end amount", "least_paid": "case plot rule amount", "most_paid": "case plot rule amount",
        "together": "case plot rule amount some",
    },
    "joining": {
        "joined": "roll plot some buyer", "clears": "case plot rule some", "least_clearing": "case plot rule",
    },
    "healing": {
        "signed": "roll plot name some", "heals": "case plot rule name some", "healers": "case plot rule name",
        "least_healing": "case plot rule name barred",
    },
    "parting": {
        "parted_many": "case plot one other", "parted_by": "case plot one other", "pairs_many": "case plot one other",
    },
    "stories": {
        "fewest_papers": "one other", "story": "one other", "is_story": "one other thing", "doctrine_by": "told",
    },
    "changes": {
        "changed": "roll plot rule later day truth", "holders_changed": "case plot rule later day",
        "days_safe": "case plot rule later name",
    },
    "fund": {
        "claims": "roll plot rule truth", "most_claims": "case plot rule", "least_claims": "case plot rule",
        "claims_most_of": "case plot rule",
    },
    "joint": {
        "joint": "case plots rule", "sure_of_many": "case rule name", "may_have": "case rule name",
        "sure_of_one": "case plots rule name", "bound_plots": "case rule",
    },
    "late": {
        "late": "case at paper word", "differs": "case plot rule at paper", "reaches": "case plot rule at paper",
    },
    "extracts": {
        "extract": "case plot rule name", "is_extract": "case plot rule name thing",
        "behind": "case plot rule place node",
    },
    "notes": {
        "agree": "case one other", "put_together": "case one other", "least_telling": "case plot rule name one other",
    },
    "notation": {
        "show_paper": "paper", "show_roll": "roll", "show_case": "case", "show_rule": "rule", "show_lot": "lot",
        "show_tree": "tree",
    },
    "readers": {
        "read_paper": "text", "read_roll": "text", "read_rule": "text", "read_lot": "text", "read_tree": "text",
        "read_case": "text",
    },
}
METHODS = {
    ("cases", "Case"): {
        "__init__": "roll known groups most", "__eq__": "other", "roll": "", "known": "", "groups": "", "most": "",
        "doubts": "", "truths": "", "doubt_of": "number", "count": "", "is_truth": "thing", "voids": "truth",
        "found": "number word",
    },
    ("graph", "Graph"): {
        "__init__": "case plot rule", "places": "", "open_at": "place", "nodes": "place", "steps": "place",
        "walk": "truth", "come": "place node",
    },
    ("book", "Book"): {
        "__init__": "firsts", "__eq__": "other", "__len__": "", "do": "deed", "case": "", "rule": "", "claims": "",
        "log": "", "back": "", "again": "", "copied": "", "trial": "deeds",
    },
    ("desk", "Desk"): {"__init__": "firsts", "execute": "line", "book": ""},
}
ERRORS = {
    "Wrong": "place", "NoPlot": "plot", "NoPaper": "number", "NoSale": "number", "Needed": "number other",
    "Clash": "name", "NoTruth": "truth", "NoWord": "word", "Known": "number", "Bound": "", "NoPlace": "place",
    "NoNode": "node", "NoHead": "head", "Unlikely": "", "Unlike": "head", "NoText": "", "NoDeed": "",
    "NoGroup": "numbers", "NoClaim": "number", "Broken": "number truth", "Nothing": "", "Stopped": "index",
    "NoCommand": "",
}
DOCUMENT = ROOT.parent / "shared" / "DOC.md"
# What the language lets be imported from Python's own library.
LIBRARY = {
    "heapq": {"heappush", "heappop", "heapify", "heapreplace", "heappushpop"},
    "math": {"gcd", "lcm", "isqrt", "comb", "perm", "factorial"},
    "itertools": {
        "product", "combinations", "permutations", "chain", "accumulate", "pairwise", "islice", "zip_longest",
    },
    "collections": {"defaultdict", "deque"},
}
BARRED = {
    "eval", "exec", "open", "input", "compile", "globals", "locals", "vars", "filter", "print", "float", "chr", "hash",
    "id", "round", "object", "complex", "callable", "delattr", "bytearray", "memoryview", "slice", "format", "ascii",
}


def files():
    return sorted(PACKAGE.rglob("*.py"))


def trees():
    return [(path.name, ast.parse(path.read_text())) for path in files()]


def defined(tree):
    """The names that the file of a tree defines itself."""
    found = [one.name for one in tree.body if isinstance(one, (ast.FunctionDef, ast.ClassDef))]
    return found + [one.targets[0].id for one in tree.body if isinstance(one, ast.Assign)]


class Interface(unittest.TestCase):
    def assert_defined(self, body, functions, where):
        found = {node.name: node.args for node in body if isinstance(node, ast.FunctionDef)}
        for function, arguments in functions.items():
            self.assertIn(function, found, where)
            self.assertEqual([one.arg for one in found[function].args], arguments.split(), function)
            self.assertEqual(found[function].defaults, [], function)

    def test_each_function_is_defined_in_its_file_with_its_arguments(self):
        for name, functions in FUNCTIONS.items():
            self.assert_defined(ast.parse((PACKAGE / f"{name}.py").read_text()).body, functions, name)

    def test_each_method_is_defined_in_its_class_with_its_arguments(self):
        for (name, title), methods in METHODS.items():
            tree = ast.parse((PACKAGE / f"{name}.py").read_text())
            found = [node for node in tree.body if isinstance(node, ast.ClassDef) and node.name == title]
            self.assertEqual(len(found), 1, title)
            with_self = {method: f"self {arguments}" for method, arguments in methods.items()}
            self.assert_defined(found[0].body, with_self, title)


    def test_each_file_is_imported_and_holds_its_names(self):
        for name, functions in FUNCTIONS.items():
            held = importlib.import_module(f"soundtitle.{name}")
            for function, arguments in functions.items():
                self.assert_called_with(getattr(held, function), arguments)
                self.assertEqual(getattr(held, function).__module__, f"soundtitle.{name}")
        for (name, title), methods in METHODS.items():
            kind = getattr(importlib.import_module(f"soundtitle.{name}"), title)
            self.assertEqual(kind.__module__, f"soundtitle.{name}")
            for method, arguments in methods.items():
                self.assertIn(method, vars(kind))
                self.assert_called_with(vars(kind)[method], f"self {arguments}")

    def test_the_errors(self):
        held = importlib.import_module("soundtitle.errors")
        self.assertEqual(held.TitleError.__bases__, (ValueError,))
        for title, arguments in ERRORS.items():
            kind = getattr(held, title)
            self.assertEqual(kind.__bases__, (held.TitleError,))
            self.assert_called_with(vars(kind)["__init__"], f"self {arguments}")

    def assert_called_with(self, function, arguments):
        found = inspect.signature(function).parameters.values()
        self.assertEqual([one.name for one in found], arguments.split(), function)
        for one in found:
            self.assertIs(one.default, inspect.Parameter.empty)
            self.assertIs(one.kind, inspect.Parameter.POSITIONAL_OR_KEYWORD)

    @unittest.skipUnless(DOCUMENT.exists(), "the document is not here")
    def test_these_are_the_names_of_the_document(self):
        told = DOCUMENT.read_text().split("# The interface")[1]
        rows = re.findall("^- soundtitle/([a-z]+)[.]py (.*)$", told, re.MULTILINE)
        self.assertEqual({name for name, _ in rows}, {"errors", *FUNCTIONS, *[name for name, _ in METHODS]})
        for name, row in rows:
            row = row.split("with its arguments as fields")[-1] if name == "errors" else row
            calls = dict(re.findall("`([A-Za-z_]+)[(]([a-z, ]*)[)]`", row))
            # What functions raise stands among the calls, too.
            found = {one: calls[one].replace(",", "") for one in calls if name == "errors" or one not in ERRORS}
            titles = [title for place, title in METHODS if place == name]
            expected = FUNCTIONS.get(name, {}) if name != "errors" else ERRORS
            for title in titles:
                methods = METHODS[name, title]
                plain = {one: arguments for one, arguments in methods.items() if not one.startswith("__")}
                expected = {**expected, **plain, title: methods["__init__"]}
                self.assertEqual("with `==`" in row, "__eq__" in methods)
                self.assertEqual("`len`" in row, "__len__" in methods)
            self.assertEqual(found, expected, name)


class Examples(unittest.TestCase):
    @unittest.skipUnless(DOCUMENT.exists(), "the document is not here")
    def test_those_of_the_document(self):
        # The fences would be read as what is expected.
        text = DOCUMENT.read_text().replace("```", "")
        examples = doctest.DocTestParser().get_doctest(text, {}, "DOC.md", str(DOCUMENT), 0)
        found = doctest.DocTestRunner().run(examples)
        self.assertGreater(found.attempted, 30)
        self.assertEqual(found.failed, 0)


class Readme(unittest.TestCase):
    def test_its_examples(self):
        found = doctest.testfile(str(ROOT / "README.md"), module_relative=False)
        self.assertGreater(found.attempted, 10)
        self.assertEqual(found.failed, 0)


class Rules(unittest.TestCase):
    def test_the_folder_holds_plain_files_alone(self):
        for path in PACKAGE.rglob("*"):
            if "__pycache__" not in path.parts:
                self.assertTrue(path.suffix == ".py" and path.name == path.name.lower(), path)

    def test_sizes_and_signs(self):
        for path in files():
            text = path.read_text()
            self.assertLessEqual(len(text.splitlines()), 399, path)
            for line in text.splitlines():
                self.assertLessEqual(len(line), 120, path)
                self.assertTrue(all(" " <= sign <= "~" for sign in line), path)

    def test_functions_are_short(self):
        for name, tree in trees():
            for node in ast.walk(tree):
                if isinstance(node, ast.FunctionDef):
                    self.assertLessEqual(node.end_lineno - node.lineno + 1, 40, f"{name}: {node.name}")

    def test_imports_come_from_the_defining_file_of_the_package(self):
        for name, tree in trees():
            for node in ast.walk(tree):
                self.assertNotIsInstance(node, ast.Import, name)
                if isinstance(node, ast.ImportFrom):
                    if node.module in LIBRARY:
                        told = LIBRARY[node.module]
                    else:
                        self.assertTrue(node.module.startswith("soundtitle."), name)
                        told = defined(ast.parse((ROOT / (node.module.replace(".", "/") + ".py")).read_text()))
                    for one in node.names:
                        self.assertIsNone(one.asname, name)
                        self.assertIn(one.name, told, name)

    def test_no_name_of_a_function_hides_an_import_or_a_class(self):
        taken_ahead = [one for one in dir(builtins) if not one.startswith("_")]
        for name, tree in trees():
            imported = [one.name for node in tree.body if isinstance(node, ast.ImportFrom) for one in node.names]
            taken = taken_ahead + imported + [node.name for node in tree.body if isinstance(node, ast.ClassDef)]
            for node in ast.walk(tree):
                if isinstance(node, ast.arg):
                    self.assertNotIn(node.arg, taken, name)
                if isinstance(node, ast.Name) and isinstance(node.ctx, ast.Store):
                    self.assertNotIn(node.id, taken, name)

    def test_barred_words_are_not_called(self):
        for name, tree in trees():
            for node in ast.walk(tree):
                if isinstance(node, ast.Name):
                    self.assertNotIn(node.id, BARRED, name)


if __name__ == "__main__":
    unittest.main()
