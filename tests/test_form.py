"""The form of the package: where the names of the interface are defined, and the plainest rules of the language."""

import ast
import os
import re
import unittest

import fullbelts

FOLDER = os.path.dirname(os.path.abspath(fullbelts.__file__))

INTERFACE = {
    "programs": {"Program": ()},
    "webs": {"goal": 2, "led": 3, "reached": 1, "faults": 1, "route_to": 2, "fault_route": 3, "is_fault_route": 4},
    "wants": {"wanted": 1, "want_route": 3, "is_want_route": 4, "load": 2, "need": 1},
    "runs": {"Run": ("has", "route", "told", "go", "back", "copy", "trying")},
    "machines": {"Machine": (), "empty": 1, "put": 3, "carried": 2},
    "codes": {"Code": ()},
    "tables": {"table": 1, "is_table": 2},
    "refuting": {"refutation": 1, "is_refutation": 2},
    "steppers": {"Stepper": ("route", "holding", "wrong", "go", "back", "copy", "trying")},
    "pieces": {"heirs": 2, "pieces": 1},
    "walks": {"renaming": 3, "walk_end": 3, "renamings": 2, "ring_for": 3},
    "lots": {"lots": 2, "deal": 3},
    "seatings": {"seating": 2, "is_seating": 3},
    "counting": {"many_seatings": 3, "seating_at": 4},
    "denials": {"denial": 2, "is_denial": 3},
    "verdicts": {"enough": 2},
    "shapes": {"shapes": 1, "fewest_belts": 1, "over": 2, "parting": 2},
    "shuffles": {"shuffled": 2},
    "shortest": {"least_carries": 2, "shortest": 2},
    "makers": {"code_for": 2, "code_with": 3, "spare_code": 2, "seats": 1},
    "rings": {"ring_carries": 5, "sparing_code": 5},
    "unrolling": {"is_unrolling": 2, "copies": 3, "unrolled": 2},
    "straights": {"cheapest": 2, "heights": 2, "is_floor": 4},
    "texts": {"program_text": 1, "machine_text": 1, "code_text": 1},
    "reading": {"read_program": 1, "read_machine": 1, "read_code": 3},
    "desks": {"Desk": ("tell", "undoable")}}

LIBRARY = {"heapq", "math", "itertools", "collections", "__future__"}

BARRED_WORDS = re.compile(
    r"\b(typing|typing_extensions|enum|Enum|IntEnum|StrEnum|Flag|IntFlag|Generic|Protocol|ABC|ABCMeta|namedtuple|"
    r"NamedTuple|TypedDict|TYPE_CHECKING|abstractmethod|_wall|_WallAttr)\b|dataclass|overload|contextmanager")

BARRED_NAMES = {
    "register", "mro", "elements", "open", "input", "law", "eval", "exec", "globals", "locals", "vars", "dir", "id",
    "compile", "breakpoint", "print", "round", "hash", "filter", "complex", "slice", "memoryview",
    "bytearray", "callable", "issubclass", "delattr", "__import__", "hex", "oct", "bin", "ascii", "format"}

BARRED_NODES = (
    ast.AsyncFunctionDef, ast.Await, ast.AsyncFor, ast.AsyncWith, ast.Import, ast.MatMult, ast.Div)


def files():
    return sorted([name for name in os.listdir(FOLDER) if name != "__pycache__"])


def text_of(name):
    with open(os.path.join(FOLDER, name), encoding="utf-8") as file:
        return file.read()


def trees():
    return {name[:-3]: ast.parse(text_of(name)) for name in files()}


class Interface(unittest.TestCase):
    def test_each_name_is_defined_in_its_file(self):
        found = trees()
        for module, listed in INTERFACE.items():
            defined = {node.name: node for node in found[module].body
                       if isinstance(node, (ast.FunctionDef, ast.ClassDef))}
            for name, told in listed.items():
                self.assertIn(name, defined)
                if isinstance(told, int):
                    self.assertIsInstance(defined[name], ast.FunctionDef)
                    self.assertEqual(len(defined[name].args.posonlyargs + defined[name].args.args), told)
                else:
                    self.assertIsInstance(defined[name], ast.ClassDef)
                    methods = [node.name for node in defined[name].body if isinstance(node, ast.FunctionDef)]
                    for method in told:
                        self.assertIn(method, methods)


class Form(unittest.TestCase):
    def test_files(self):
        self.assertIn("__init__.py", files())
        self.assertLessEqual(len(files()), 100)
        for name in files():
            self.assertRegex(name, r"^[a-z0-9_]+\.py$")

    def test_sizes_and_characters(self):
        for name in files():
            text = text_of(name)
            self.assertLessEqual(len(text.splitlines()), 399, name)
            for line in text.split("\n"):
                self.assertLessEqual(len(line), 120, name)
                self.assertRegex(line, r"^[ -~]*$", name)

    def test_functions_are_small(self):
        for name, tree in trees().items():
            for node in ast.walk(tree):
                if isinstance(node, ast.FunctionDef):
                    self.assertLessEqual(node.end_lineno - node.lineno + 1, 40, (name, node.name))

    def test_nothing_that_is_barred(self):
        for name, tree in trees().items():
            for node in ast.walk(tree):
                self.assertNotIsInstance(node, BARRED_NODES, name)
                if isinstance(node, ast.Constant):
                    self.assertNotIsInstance(node.value, (float, complex), name)
                if isinstance(node, ast.Name):
                    self.assertNotIn(node.id, BARRED_NAMES, name)
                if isinstance(node, ast.ExceptHandler):
                    self.assertIsNotNone(node.type, name)
                    self.assertNotIn("Exception", ast.dump(node.type).split("'"), name)

    def test_words(self):
        for name in files():
            for node in ast.walk(ast.parse(text_of(name))):
                for word in (getattr(node, "id", None), getattr(node, "attr", None), getattr(node, "arg", None),
                             getattr(node, "name", None)):
                    if isinstance(word, str):
                        self.assertNotRegex(word, BARRED_WORDS, name)

    def test_imports(self):
        found = trees()
        for name, tree in found.items():
            for node in ast.walk(tree):
                if isinstance(node, ast.ImportFrom):
                    self.assertIn(node, tree.body, name)
                    self.assertEqual(node.level, 0, name)
                    self.assertNotIn("*", [alias.name for alias in node.names], name)
                    if node.module not in LIBRARY:
                        self.assertRegex(node.module, r"^fullbelts\.[a-z0-9_]+$", name)
                        self.defined_there(found[node.module[10:]], node.names)

    def defined_there(self, tree, aliases):
        defined = [node.name for node in tree.body if isinstance(node, (ast.FunctionDef, ast.ClassDef))]
        defined += [target.id for node in tree.body if isinstance(node, ast.Assign) for target in node.targets]
        for alias in aliases:
            self.assertIn(alias.name, defined)

    def test_no_two_files_import_from_each_other(self):
        ahead = {name: [node.module[10:] for node in tree.body
                        if isinstance(node, ast.ImportFrom) and node.module not in LIBRARY]
                 for name, tree in trees().items()}
        while ahead:
            free = [name for name in ahead if not set(ahead[name]) & set(ahead)]
            self.assertTrue(free, ahead)
            ahead = {name: others for name, others in ahead.items() if name not in free}


if __name__ == "__main__":
    unittest.main()
