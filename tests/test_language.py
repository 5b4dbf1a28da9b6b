"""Rules of the program's own source that a test can see, and where the interface is defined."""

import ast
import builtins
import pathlib
import re
import unittest

from lastheap.machine import Halted

FOLDER = pathlib.Path(__file__).resolve().parent.parent / "lastheap"
BUILTINS = set(
    "len range enumerate zip min max sum abs sorted reversed int str bool list tuple dict set isinstance ord"
    " repr any all divmod ValueError KeyError".split()
)
METHODS = set(
    "append clear copy count endswith extend find get index insert isalnum isalpha isdigit islower isspace"
    " isupper items join keys ljust lower lstrip partition pop remove replace reverse rfind rjust rpartition"
    " rsplit rstrip setdefault split splitlines startswith strip update upper values zfill bit_length".split()
)
BARRED_WORDS = re.compile(
    r"\b(type|typing|enum|Enum|Generic|Protocol|ABC|namedtuple|NamedTuple|TypedDict)\b|dataclass|overload"
)
BARRED_NAMES = set(
    "register mro elements open input law version_info with_traceback add_note attrgetter breakpoint compile"
    " copyright credits delattr dir eval exec exit gc globals help id importlib license locals methodcaller os"
    " quit super type vars sys".split()
)
BARRED_ATTRIBUTES = set(
    "items keys values pop update append clear extend insert remove reverse setdefault sort args encode decode"
    " hex fromhex format".split()
)
ALLOWED_NODES = (
    ast.Module, ast.ImportFrom, ast.alias, ast.FunctionDef, ast.arguments, ast.arg, ast.ClassDef, ast.Assign,
    ast.AugAssign, ast.If, ast.While, ast.For, ast.Return, ast.Break, ast.Continue, ast.Pass, ast.Raise,
    ast.Expr, ast.Constant, ast.Name, ast.Attribute, ast.Subscript, ast.Slice, ast.Call, ast.keyword,
    ast.BinOp, ast.UnaryOp, ast.BoolOp, ast.Compare, ast.IfExp, ast.List, ast.Tuple, ast.Dict, ast.ListComp,
    ast.DictComp, ast.comprehension, ast.JoinedStr, ast.FormattedValue, ast.operator, ast.unaryop, ast.boolop,
    ast.cmpop, ast.expr_context, ast.Try, ast.ExceptHandler,
)
INTERFACE = {
    "errors": (
        "HeapError", "Malformed", "Faulty", "Misfit", "BadCount", "Shape", "Other", "Wide", "NoImage", "NoPlace",
        "BadLine", "Large", "Busy", "Idle", "NoBack", "BadText",
    ),
    "reader": ("Program", "read_program"),
    "printer": ("program_text",),
    "judging": ("Fault", "judge"),
    "heaps": ("places", "empty_heap"),
    "running": ("Block", "Sync", "Out", "Stop", "Run", "plain_run", "heaps"),
    "lines": ("Layout", "packed", "spread", "Store", "Flush", "Fence"),
    "ring": ("log_pairs", "blank"),
    "recovery": ("Recovered", "recover"),
    "runtime": ("Trace", "translate"),
    "images": ("contents_of", "cut_times", "count_images", "image_at", "place_of"),
    "prefixes": ("staircase", "prefix_of", "count_by_prefix", "image_with"),
    "rules": ("Broken", "broken_rule"),
    "strangers": ("wrong_image",),
    "runs": ("joined", "fences", "flushes", "smallest_ring"),
    "rounds": ("fences_of_rounds",),
    "editions": ("led_over",),
    "session": ("Session",),
    "lasttexts": ("commands_text", "read_commands", "place_text", "block_text", "heap_text"),
    "desk": ("Desk",),
}


# What gives something to iterate over, and what iterates over its first argument at once.
ITERABLES = ("range", "zip", "enumerate", "reversed", "items", "keys", "values")
ITERATING = ("list", "tuple", "dict", "sorted", "sum", "min", "max", "any", "all", "enumerate", "zip", "len")


def called_name(node):
    return getattr(node.func, "id", None) or getattr(node.func, "attr", None)


def sources():
    return {path.stem: path.read_text(encoding="utf-8") for path in sorted(FOLDER.glob("*.py"))}


def trees():
    return {name: ast.parse(text) for name, text in sources().items()}


def bound_names(tree):
    for node in ast.walk(tree):
        if isinstance(node, (ast.FunctionDef, ast.ClassDef)):
            yield node.name
        elif isinstance(node, ast.arg):
            yield node.arg
        elif isinstance(node, ast.Name) and isinstance(node.ctx, ast.Store):
            yield node.id
        elif isinstance(node, ast.alias):
            yield node.name


class FilesTest(unittest.TestCase):
    def test_only_plain_files(self):
        for path in FOLDER.iterdir():
            if path.name != "__pycache__":
                self.assertRegex(path.name, r"^[a-z0-9_]+\.py$")

    def test_sizes_and_characters(self):
        for name, text in sources().items():
            lines = text.split("\n")
            self.assertLessEqual(len(lines), 399, name)
            self.assertLessEqual(max(len(line) for line in lines), 120, name)
            self.assertIsNone(re.search(r"[^ -~\n]", text), name)

    def test_functions_are_short(self):
        for name, tree in trees().items():
            for node in ast.walk(tree):
                if isinstance(node, ast.FunctionDef):
                    self.assertLessEqual(node.end_lineno - node.lineno + 1, 40, (name, node.name))


class RulesTest(unittest.TestCase):
    def test_kinds_of_code(self):
        for name, tree in trees().items():
            for node in ast.walk(tree):
                self.assertIsInstance(node, ALLOWED_NODES, (name, getattr(node, "lineno", 0)))
                if isinstance(node, (ast.FunctionDef, ast.ClassDef)):
                    self.assertEqual(node.decorator_list, [], name)
                self.assertNotIsInstance(node, ast.Div, name)

    def test_module_level(self):
        for name, tree in trees().items():
            self.assertIsNotNone(ast.get_docstring(tree), name)
            bound = []
            for node in tree.body[1:]:
                self.assertIsInstance(
                    node, (ast.ImportFrom, ast.FunctionDef, ast.ClassDef, ast.Assign), (name, node.lineno)
                )
                if isinstance(node, ast.ImportFrom):
                    bound += [one.name for one in node.names]
                elif isinstance(node, ast.Assign):
                    self.assertEqual(len(node.targets), 1)
                    bound.append(node.targets[0].id)
                else:
                    bound.append(node.name)
            self.assertEqual(len(bound), len(set(bound)), name)

    def test_imports(self):
        known = trees()
        reached = {name: set() for name in known}
        for name, tree in known.items():
            for node in ast.walk(tree):
                if isinstance(node, ast.ImportFrom):
                    self.assertEqual(node.level, 0)
                    package, _, module = node.module.partition(".")
                    self.assertEqual(package, "lastheap", name)
                    defined = [getattr(one, "name", None) or one.targets[0].id for one in known[module].body[1:]
                               if not isinstance(one, ast.ImportFrom)]
                    for one in node.names:
                        self.assertIsNone(one.asname)
                        self.assertIn(one.name, defined, name)
                    reached[name].add(module)
        for _ in known:
            for name in known:
                for other in list(reached[name]):
                    reached[name] |= reached[other]
        for name in known:
            self.assertNotIn(name, reached[name])

    def test_names(self):
        for name, tree in trees().items():
            imported = {one.name for node in tree.body if isinstance(node, ast.ImportFrom) for one in node.names}
            classes = {node.name for node in tree.body if isinstance(node, ast.ClassDef)}
            for bound in bound_names(tree):
                self.assertNotIn(bound, BARRED_NAMES, name)
                if bound.startswith("__"):
                    self.assertIn(bound, ("__init__", "__eq__"), name)
                else:
                    self.assertFalse(hasattr(builtins, bound), (name, bound))
            for node in ast.walk(tree):
                if isinstance(node, ast.arg):
                    self.assertNotIn(node.arg, imported | classes, name)
                if isinstance(node, ast.Name) and isinstance(node.ctx, ast.Store):
                    self.assertNotIn(node.id, imported | classes, name)
                if isinstance(node, ast.Name) and isinstance(node.ctx, ast.Load):
                    self.assertNotEqual(node.id, "_", name)
                    if hasattr(builtins, node.id):
                        self.assertIn(node.id, BUILTINS, name)
                if isinstance(node, ast.Attribute):
                    if isinstance(node.ctx, ast.Store):
                        self.assertNotIn(node.attr, BARRED_ATTRIBUTES, name)
                    self.assertNotIn(node.attr, BARRED_NAMES, name)

    def test_methods_and_attributes(self):
        own = set()
        attributes = set()
        for tree in trees().values():
            for node in ast.walk(tree):
                if isinstance(node, ast.ClassDef):
                    own |= {one.name for one in node.body if isinstance(one, ast.FunctionDef)}
                elif isinstance(node, ast.Attribute) and isinstance(node.ctx, ast.Store):
                    attributes.add(node.attr)
        self.assertEqual(own & attributes, set())
        self.assertEqual(own & METHODS, set())
        for name, tree in trees().items():
            for node in ast.walk(tree):
                if isinstance(node, ast.Call) and isinstance(node.func, ast.Attribute):
                    self.assertIn(node.func.attr, own | METHODS, (name, node.lineno))
                elif isinstance(node, ast.Attribute):
                    self.assertIn(node.attr, own | attributes | METHODS, (name, node.lineno))

    def test_ranges_and_their_kin_are_iterated_on_the_spot(self):
        for name, tree in trees().items():
            iterated = set()
            for node in ast.walk(tree):
                if isinstance(node, (ast.For, ast.comprehension)):
                    iterated.add(node.iter)
                elif isinstance(node, ast.Call) and isinstance(node.func, ast.Name):
                    if node.func.id in ITERATING and node.args:
                        iterated.add(node.args[0])
                    if node.func.id == "zip":
                        iterated.update(node.args)
                elif isinstance(node, ast.Compare) and isinstance(node.ops[0], (ast.In, ast.NotIn)):
                    iterated.add(node.comparators[0])
            for node in ast.walk(tree):
                if isinstance(node, ast.Call) and called_name(node) in ITERABLES:
                    self.assertIn(node, iterated, (name, node.lineno))

    def test_strings_and_words(self):
        for name, tree in trees().items():
            documented = set()
            for node in ast.walk(tree):
                if isinstance(node, (ast.Module, ast.ClassDef, ast.FunctionDef)) and ast.get_docstring(node):
                    documented.add(node.body[0].value)
            for node in ast.walk(tree):
                if isinstance(node, ast.Constant) and isinstance(node.value, str):
                    self.assertNotIn("%", node.value, name)
                    if node not in documented:
                        self.assertIsNone(BARRED_WORDS.search(node.value), name)
                elif isinstance(node, ast.Name):
                    self.assertIsNone(BARRED_WORDS.search(node.id), name)
                elif isinstance(node, ast.Attribute):
                    self.assertIsNone(BARRED_WORDS.search(node.attr), name)


class ErrorClassesTest(unittest.TestCase):
    def test_all_derive_directly_and_tell(self):
        bases = {node.name: [base.id for base in node.bases] for tree in trees().values()
                 for node in ast.walk(tree) if isinstance(node, ast.ClassDef)}
        for name, tree in trees().items():
            for node in ast.walk(tree):
                if isinstance(node, ast.ClassDef) and node.bases and node.bases[0].id in ("HeapError", "ValueError"):
                    own = [one.name for one in node.body if isinstance(one, ast.FunctionDef)]
                    if node.name != "HeapError":
                        self.assertEqual(bases[node.name], ["HeapError"], name)
                        self.assertIn("told", own, (name, node.name))
                for base in getattr(node, "bases", []):
                    self.assertNotEqual(bases.get(base.id), ["HeapError"], (name, node.name))

    def test_internal_errors_stay_inside(self):
        self.assertEqual(Halted("full", None).told(), "refused halted")


class InterfaceTest(unittest.TestCase):
    def test_defined_in_its_file(self):
        known = trees()
        for module, names in INTERFACE.items():
            defined = [node.name for node in known[module].body if isinstance(node, (ast.FunctionDef, ast.ClassDef))]
            for name in names:
                self.assertIn(name, defined, module)


if __name__ == "__main__":
    unittest.main()
