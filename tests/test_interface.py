"""The interface: what is defined where, under which names; and the form of the package's files."""

import ast
import importlib
import inspect
import pathlib
import unittest

PACKAGE = pathlib.Path(__file__).resolve().parent.parent / "elderlogs"

CLASSES = {
    "errors": {"LogError": [], "InvalidRow": ["word"], "InvalidEdition": ["word"], "InvalidChain": ["word"],
               "InvalidText": ["at"], "InvalidLog": ["at"], "InvalidEvent": ["at"], "Refused": ["at"],
               "NoPlace": ["name"], "NoEdition": ["at"], "InvalidFault": [], "InvalidCommand": []},
    "rows": {"Row": None, "Ask": ["place", "name", "ways"], "Note": ["place", "word", "then"],
             "Gate": ["place", "mark", "newer", "elder"], "End": ["place"]},
    "editions": {"Edition": ["rows", "drops"]},
    "logs": {"Played": None},
    "chains": {"Chain": ["editions", "due"]},
    "works": {"Story": None},
    "live": {"Work": ["chain", "at"]},
    "desk": {"Desk": []},
}

METHODS = {
    ("rows", "Row"): {"read": ["text"], "__eq__": None, "__str__": []},
    ("editions", "Edition"): {"row": ["place"], "putting": ["row"], "without_mark": ["mark"], "read": ["text"],
                              "__len__": [], "__eq__": None, "__str__": []},
    ("chains", "Chain"): {"without": ["at"], "newest": ["edition"], "read": ["text"], "__len__": [],
                          "__getitem__": None, "__add__": None, "__eq__": None, "__str__": []},
    ("live", "Work"): {"events": None, "played": None, "asks": None, "do": ["event"], "several": ["events"],
                       "undo": [], "trial": [], "within": ["deed"], "__len__": [], "__iadd__": None},
    ("desk", "Desk"): {"say": ["command"]},
}

FUNCTIONS = {
    "logs": {"log_text": ["log"], "read_log": ["text"], "replay": ["edition", "log"]},
    "works": {"play": ["chain", "events"]},
    "deciding": {"happens": ["chain", "fault"], "faults": ["chain"], "story": ["chain", "fault"],
                 "comes": ["chain", "at", "place"]},
    "papers": {"paper": ["chain", "fault"], "paper_holds": ["chain", "fault", "value"]},
    "marks": {"least_marks": ["chain", "wanted"], "lying": ["chain", "mark"], "can_go": ["chain", "mark"]},
    "ways": {"safe_ways": ["chain", "place", "answer", "wanted"], "needless": ["chain", "wanted"]},
    "comparing": {"alike": ["p", "q"], "parting": ["p", "q"], "wrote": ["chain", "log"], "began": ["chain", "log"]},
}

DEFAULTS = {("editions", "Edition"): {"drops": ()}, ("chains", "Chain"): {"due": ()}, ("live", "Work"): {"at": 0}}


def defined(module):
    """The definitions at the top of a module's file."""
    tree = ast.parse((PACKAGE / f"{module}.py").read_text("utf-8"))
    return {node.name: node for node in tree.body if isinstance(node, (ast.ClassDef, ast.FunctionDef))}


class Interface(unittest.TestCase):
    def test_classes_are_defined_in_their_files(self):
        for module, classes in CLASSES.items():
            for name in classes:
                with self.subTest(module=module, name=name):
                    self.assertIsInstance(defined(module)[name], ast.ClassDef)
                    made = getattr(importlib.import_module(f"elderlogs.{module}"), name)
                    self.assertEqual((made.__module__, made.__name__), (f"elderlogs.{module}", name))

    def test_parameter_names(self):
        for module, classes in CLASSES.items():
            for name, parameters in classes.items():
                if parameters:
                    made = getattr(importlib.import_module(f"elderlogs.{module}"), name)
                    told = inspect.signature(made).parameters
                    with self.subTest(module=module, name=name):
                        self.assertEqual(list(told), parameters)
                        defaults = DEFAULTS.get((module, name), {})
                        for word in told:
                            self.assertEqual(told[word].default, defaults.get(word, inspect.Parameter.empty))

    def test_functions_are_defined_in_their_files(self):
        for module, functions in FUNCTIONS.items():
            for name, parameters in functions.items():
                with self.subTest(module=module, name=name):
                    self.assertIsInstance(defined(module)[name], ast.FunctionDef)
                    made = getattr(importlib.import_module(f"elderlogs.{module}"), name)
                    self.assertEqual(list(inspect.signature(made).parameters), parameters)

    def test_methods_are_defined_in_the_class_itself(self):
        for (module, name), methods in METHODS.items():
            made = getattr(importlib.import_module(f"elderlogs.{module}"), name)
            for method, parameters in methods.items():
                with self.subTest(name=name, method=method):
                    self.assertIn(method, vars(made))
                    if parameters is not None:
                        told = list(inspect.signature(getattr(made, method)).parameters)
                        self.assertEqual([word for word in told if word != "self"], parameters)

    def test_read_is_a_class_method(self):
        for module, name in (("rows", "Row"), ("editions", "Edition"), ("chains", "Chain")):
            made = getattr(importlib.import_module(f"elderlogs.{module}"), name)
            self.assertIsInstance(vars(made)["read"], classmethod)

    def test_all_modules_are_there(self):
        for module in ("errors", "rows", "editions", "logs", "chains", "works", "deciding", "papers", "marks", "ways",
                       "comparing", "live", "desk"):
            self.assertTrue({*CLASSES.get(module, {}), *FUNCTIONS.get(module, {})})
            self.assertTrue((PACKAGE / f"{module}.py").is_file())


class Form(unittest.TestCase):
    def test_the_package_has_nothing_but_its_files(self):
        # Who runs the tests without -B has caches there, which git does not keep.
        found = [path.name for path in PACKAGE.iterdir() if path.name != "__pycache__"]
        self.assertEqual([name for name in found if not name.endswith(".py") or name.startswith("test")], [])

    def test_the_package_file_is_empty_but_for_a_docstring(self):
        tree = ast.parse((PACKAGE / "__init__.py").read_text("utf-8"))
        self.assertTrue(ast.get_docstring(tree))
        self.assertEqual(len(tree.body), 1)

    def test_characters_and_sizes(self):
        for path in PACKAGE.glob("*.py"):
            text = path.read_text("utf-8")
            with self.subTest(path=path.name):
                self.assertEqual([sign for sign in text if sign != "\n" and not " " <= sign <= "~"], [])
                self.assertLessEqual(len(text.split("\n")), 400)
                self.assertEqual([line for line in text.split("\n") if len(line) > 120], [])
                for node in ast.walk(ast.parse(text)):
                    if isinstance(node, ast.FunctionDef):
                        self.assertLessEqual(node.end_lineno - node.lineno + 1, 40, node.name)
