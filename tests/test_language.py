"""What can be seen at once of the rules that the code keeps to, and of the interface."""

import ast
import builtins
import pathlib
import unittest

FOLDER = pathlib.Path(__file__).resolve().parent.parent / "treestacks"
FILES = sorted(path for path in FOLDER.rglob("*") if "__pycache__" not in path.parts)

BUILTINS = {
    "len", "range", "enumerate", "zip", "min", "max", "sum", "abs", "sorted", "reversed", "int", "str", "bool",
    "list", "tuple", "dict", "set", "isinstance", "ord", "repr", "any", "all", "divmod", "ValueError", "TypeError",
}
STATEMENTS = (
    ast.FunctionDef, ast.ClassDef, ast.ImportFrom, ast.Assign, ast.AugAssign, ast.Expr, ast.If, ast.While, ast.For,
    ast.Return, ast.Break, ast.Continue, ast.Pass, ast.Raise, ast.Assert, ast.Delete, ast.Try,
)

# The functions and classes of the interface that have landed, by file, with their parameters.
INTERFACE = {
    "errors": {
        "GraftError": None, "InvalidNumber": ["value"], "InvalidRules": ["value"], "InvalidRule": ["value"],
        "InvalidTrees": ["value"], "InvalidText": ["value"], "InvalidReading": ["value"], "InvalidRun": ["value"],
        "InvalidPlaces": ["value"], "InvalidQuestion": ["value"], "InvalidClaim": ["value"], "Endless": ["kind"],
        "Undefined": ["what"], "NothingToUndo": ["word"],
    },
    "pairs": {
        "Pairs": ["kinds", "rules"], "pair_of": ["pairs", "reading"], "text_of": ["pairs", "reading"],
        "kind_of": ["pairs", "reading"],
    },
    "reading": {"readings": ["pairs", "text"], "some_reading": ["pairs", "text"]},
    "items": {"bars": ["pairs", "text"], "bars_hold": ["pairs", "text", "value"], "tally": ["pairs", "text"]},
    "trees": {
        "Trees": ["kinds", "trees"], "tree_text": ["trees", "reading"], "tree_readings": ["trees", "text"],
    },
    "leading": {
        "trees_of": ["pairs"], "tree_reading_of": ["pairs", "reading"], "reading_from_trees": ["pairs", "reading"],
        "pairs_of": ["trees"], "reading_of_tree": ["trees", "reading"], "tree_of_reading": ["trees", "reading"],
    },
    "stacks": {"Stacks": ["rules"], "run_text": ["stacks", "run"]},
    "runs": {"stacks_of": ["trees"], "run_of": ["trees", "reading"], "reading_of_run": ["trees", "run"]},
    "growing": {"grown": ["pairs", "reading", "outer", "inner", "times"]},
    "lengths": {
        "lengths": ["pairs"], "longest": ["pairs"], "loop": ["pairs"], "loop_holds": ["pairs", "value"],
        "texts": ["pairs", "many"], "four_parts": [],
    },
    "claims": {
        "is_question": ["pairs", "value"], "is_claim": ["pairs", "value"], "answer_of": ["pairs", "question"],
        "question_of": ["pairs", "claim"],
    },
    "papers": {"paper_of": ["pairs", "question"], "claim_holds": ["pairs", "claim", "paper"]},
    "desk": {"Desk": ["pairs"], "same_state": ["one", "other"]},
}

# The methods of the classes of the interface, by file and class, with their parameters behind the first one.
METHODS = {
    ("pairs", "Pairs"): {"__init__": ["kinds", "rules"], "__eq__": ["other"]},
    ("trees", "Trees"): {"__init__": ["kinds", "trees"], "__eq__": ["other"]},
    ("stacks", "Stacks"): {"__init__": ["rules"], "__eq__": ["other"]},
    ("desk", "Desk"): {
        "__init__": ["pairs"], "put": ["place", "rule"], "take": ["place"], "turn": ["place", "rule"],
        "watch": ["question"], "leave": ["question"], "undo": [], "redo": [], "claim": ["question"],
        "paper": ["question"], "report": [],
    },
}


def trees():
    """The path, text and syntax tree of each file."""
    for path in FILES:
        text = path.read_text(encoding="utf-8")
        yield path.name, text, ast.parse(text)


def parameters(node):
    """The parameters of a function, or of the __init__ of a class without its first one."""
    if isinstance(node, ast.FunctionDef):
        return [argument.arg for argument in node.args.args]
    made = [part for part in node.body if isinstance(part, ast.FunctionDef) and part.name == "__init__"]
    return parameters(made[0])[1:] if made else None


def imported(tree):
    """The modules of the package from which a file imports."""
    return {node.module.split(".")[1] for node in tree.body if isinstance(node, ast.ImportFrom)}


class TestLanguage(unittest.TestCase):
    def test_the_folder_holds_only_files_with_plain_names(self):
        self.assertTrue((FOLDER / "__init__.py").is_file())
        for path in FILES:
            self.assertTrue(path.is_file() and path.suffix == ".py", path)
            self.assertRegex(path.stem, "^(__init__|[a-z][a-z0-9_]*)$")

    def test_signs_and_lengths(self):
        for name, text, _ in trees():
            self.assertRegex(text, "\\A[\n -~]*\n\\Z", name)
            self.assertLess(len(text.splitlines()), 400, name)
            self.assertLessEqual(max(map(len, text.splitlines())), 120, name)

    def test_statements_and_values(self):
        for name, _, tree in trees():
            for node in ast.walk(tree):
                self.assertTrue(not isinstance(node, ast.stmt) or isinstance(node, STATEMENTS), (name, node))
                self.assertNotIsInstance(node, (ast.GeneratorExp, ast.Lambda, ast.SetComp, ast.Await, ast.Div))
                if isinstance(node, ast.Constant):
                    self.assertIn(type(node.value), (int, str, bool, type(None)))
                if isinstance(node, (ast.FunctionDef, ast.ClassDef)):
                    self.assertEqual(node.decorator_list, [])
                    self.assertIsNotNone(ast.get_docstring(node) or node.name.startswith("__") or None, node.name)
                if isinstance(node, ast.FunctionDef):
                    self.assertLessEqual(node.end_lineno - node.lineno + 1, 40, node.name)

    def test_imports_are_of_the_package_and_of_the_file_that_defines_the_name(self):
        defined = {}
        for name, _, tree in trees():
            for node in tree.body:
                names = [target.id for target in node.targets] if isinstance(node, ast.Assign) else []
                defined.setdefault(name[:-3], set()).update(names + [getattr(node, "name", "")])
        for name, _, tree in trees():
            for node in ast.walk(tree):
                if isinstance(node, ast.ImportFrom):
                    self.assertIn(node, tree.body)
                    self.assertEqual((node.level, node.module.split(".")[0]), (0, "treestacks"))
                    for one in node.names:
                        self.assertIsNone(one.asname)
                        self.assertIn(one.name, defined[node.module.split(".")[1]])

    def test_names(self):
        for name, _, tree in trees():
            for node in ast.walk(tree):
                if isinstance(node, ast.Name) and isinstance(node.ctx, ast.Store):
                    self.assertNotIn(node.id, dir(builtins), name)
                if isinstance(node, ast.arg):
                    self.assertNotIn(node.arg, dir(builtins), name)
                if isinstance(node, ast.Name) and node.id in dir(builtins):
                    self.assertIn(node.id, BUILTINS, name)

    def test_the_interface(self):
        for file, names in INTERFACE.items():
            tree = ast.parse((FOLDER / (file + ".py")).read_text(encoding="utf-8"))
            there = {node.name: node for node in tree.body if isinstance(node, (ast.FunctionDef, ast.ClassDef))}
            for name, due in names.items():
                self.assertIn(name, there)
                self.assertEqual(parameters(there[name]), due, name)

    def test_each_listed_method_stands_in_its_class(self):
        for (file, name), due in METHODS.items():
            tree = ast.parse((FOLDER / (file + ".py")).read_text(encoding="utf-8"))
            found = [node for node in tree.body if isinstance(node, ast.ClassDef) and node.name == name]
            there = {part.name: parameters(part)[1:] for part in found[0].body if isinstance(part, ast.FunctionDef)}
            self.assertLessEqual(due.items(), there.items())

    def test_no_module_is_imported_in_a_circle(self):
        behind = {name[:-3]: imported(tree) for name, _, tree in trees()}
        while behind:
            free = [name for name, names in behind.items() if not names & set(behind)]
            self.assertNotEqual(free, [], behind)
            behind = {name: names for name, names in behind.items() if name not in free}


if __name__ == "__main__":
    unittest.main()
