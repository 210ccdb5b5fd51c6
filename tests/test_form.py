"""The form of the package: those rules of the language that can be read off the code, and the interface."""

import ast
import pathlib
import re
import unittest

PACKAGE = pathlib.Path(__file__).resolve().parent.parent / "sameface"

BARRED_WORDS = (
    "type|typing|typing_extensions|enum|Enum|IntEnum|StrEnum|Flag|IntFlag|Generic|Protocol|ABC|ABCMeta|namedtuple|"
    "NamedTuple|TypedDict|TYPE_CHECKING|abstractmethod"
)
BARRED_NAMES = ("register", "mro", "elements", "open", "input", "law", "format", "chr", "float", "print", "hash", "id")
BARRED_NODES = (
    ast.Global,
    ast.AsyncFunctionDef,
    ast.Await,
    ast.AsyncFor,
    ast.AsyncWith,
    ast.Div,
    ast.MatMult,
    ast.Import,
)
BUILTINS = (
    "len range enumerate zip min max sum abs sorted reversed int str bool bytes list tuple dict set frozenset "
    "isinstance ord repr any all divmod iter next super property staticmethod classmethod ValueError"
).split()

METHODS = (
    "append clear copy count endswith extend find get index insert isalnum isalpha isdigit islower isspace isupper "
    "items join keys ljust lower lstrip partition pop remove replace reverse rfind rjust rpartition rsplit rstrip "
    "setdefault split splitlines startswith strip update upper values zfill bit_length isascii sort add discard"
).split()
# What is iterated on the spot, and where it may stand for it.
ITERATED = ("zip", "enumerate", "reversed", "range")
ITERATING = ("list", "tuple", "dict", "sorted", "sum", "any", "all", "enumerate", "zip", "min", "max")

INTERFACE = {
    "errors": "FaceError BadRow BadFace BadMaking BadUser BadSteps BadLead BadProgram BadModule BadUse BadInput "
    "ToldApart BadPaper Refused OutOfPlace TooGreat",
    "words": "is_whole(thing) is_among(thing, least, most) is_name(thing) number_of(word) words_of(row)",
    "faces": "is_face(thing) need_face(face) hidden_of(face) names_of(face) takes_of(face, name) gives_of(face, name)",
    "facetext": "face_text(face) read_face(text)",
    "exprs": "is_body(thing, counts, many) parts_in(body) depth_in(body) value_of(expression, fields) "
    "given_by(body, fields)",
    "makings": "is_making(face, thing) need_making(face, making) shape_of(face, making, kind) "
    "worths_of(face, making, kind) is_worth(face, making, kind, thing) body_of(face, making, name)",
    "makingtext": "making_text(face, making) read_making(face, text)",
    "doing": "done(face, making, name, handed)",
    "users": "is_user(face, thing) need_user(face, user) kind_told(face, user)",
    "usertext": "user_text(face, user) read_user(face, text)",
    "running": "outcome(face, making, user)",
    "coming": "come_to(face, making, kind) level_of(face, making, kind, worth) way_of(face, making, kind, worth) "
    "first_user(face, making, kind, worth)",
    "related": "least_relation(face, one, other) is_same(face, one, other) apart(face, one, other) "
    "keeps(face, one, other, relation, name)",
    "samepaper": "same_paper(face, one, other)",
    "samecheck": "check_paper(face, one, other, paper)",
    "alike": "are_alike(face, making, kind, worth, other) classes_of(face, making, kind)",
    "contexts": "first_context(face, making, kind, worth, other) is_telling(face, making, kind, worth, other, steps)",
    "leastmaking": "least_making(face, making)",
    "leading": "leads(face, one, other) is_good(face, one, other, leading) need_good(face, one, other, leading)",
    "fewer": "fewer_face(face, names) fewer_making(face, making, names)",
    "leaks": "leaks(face, making, names) leans(face, making, names, kind, steps) is_silent(face, making, names) "
    "needed(face, making)",
    "leakcheck": "leak_paper(face, making, names) check_leaks(face, making, names, paper)",
    "programs": "is_arg(thing) is_row(thing)",
    "kinds": "need_program(program) is_program(program) kinds_in(program)",
    "progtext": "program_text(program) read_program(text)",
    "answering": "run(program, makings, inputs) parts_at(program, makings, others)",
    "modules": "is_module(upper, lower, thing) need_module(upper, lower, thing) "
    "done_over(upper, lower, module, making, name, handed) flat_over(upper, lower, module, making, kind, worth)",
    "inlining": "inlined(upper, lower, module, making) put_into(top, upper, lower, first, module)",
    "overpaper": "come_over(upper, lower, module, making, kind) is_same_over(upper, lower, module, one, other) "
    "are_lifted(upper, lower, module, one, other, relation, kind, first, second) "
    "over_paper(upper, lower, module, one, other) check_over(upper, lower, module, one, other, paper)",
    "moduletext": "module_text(upper, lower, module) read_module(upper, lower, text)",
    "house": "House",
    "desk": "Desk answers(lines)",
}


def files():
    for path in sorted(PACKAGE.iterdir()):
        if path.name != "__pycache__":
            yield path, path.read_text(encoding="utf-8")


def bound_names(tree):
    """Every name that a file binds or uses as an attribute."""
    for node in ast.walk(tree):
        if isinstance(node, ast.Name) and isinstance(node.ctx, ast.Store):
            yield node.id
        elif isinstance(node, (ast.FunctionDef, ast.ClassDef)):
            yield node.name
        elif isinstance(node, ast.arg):
            yield node.arg
        elif isinstance(node, ast.Attribute):
            yield node.attr


class FormTest(unittest.TestCase):
    def test_files(self):
        for path, text in files():
            self.assertRegex(path.name, r"\A(__init__|[a-z][a-z0-9_]*)\.py\Z")
            self.assertRegex(text, r"\A[ -~\n]*\Z", path)
            self.assertLessEqual(len(text.splitlines()), 399, path)
            for row in text.splitlines():
                self.assertLessEqual(len(row), 120, path)
            self.assertIsNone(re.search(rf"\b({BARRED_WORDS})\b|dataclass|overload|contextmanager", text), path)

    def test_statements(self):
        for path, text in files():
            for node in ast.walk(ast.parse(text)):
                self.assertNotIsInstance(node, BARRED_NODES, path)
                if isinstance(node, ast.FunctionDef):
                    self.assertLessEqual(node.end_lineno - node.lineno + 1, 40, (path, node.name))
                if isinstance(node, ast.Constant):
                    self.assertNotIsInstance(node.value, (float, complex), path)
                    self.assertFalse(isinstance(node.value, str) and "%" in node.value, path)

    def test_module_level(self):
        allowed = (ast.ImportFrom, ast.FunctionDef, ast.ClassDef, ast.Assign, ast.Expr)
        for path, text in files():
            bound = []
            for node in ast.parse(text).body:
                self.assertIsInstance(node, allowed, path)
                if isinstance(node, ast.Expr):
                    self.assertIsInstance(node.value, ast.Constant, path)
                elif isinstance(node, ast.ImportFrom):
                    bound.extend(name.asname or name.name for name in node.names)
                elif isinstance(node, ast.Assign):
                    bound.append(node.targets[0].id)
                else:
                    bound.append(node.name)
            self.assertEqual(len(bound), len(set(bound)), path)

    def test_names(self):
        for path, text in files():
            for name in bound_names(ast.parse(text)):
                self.assertNotIn(name, BARRED_NAMES, path)
                if name != "__init__":
                    self.assertRegex(name, r"\A[A-Za-z][A-Za-z0-9_]*\Z", path)
                    self.assertNotIn(name, BUILTINS, path)

    def test_used_names(self):
        for path, text in files():
            tree = ast.parse(text)
            known = set(BUILTINS) | set(bound_names(tree))
            for node in ast.walk(tree):
                if isinstance(node, ast.ImportFrom):
                    known |= {name.name for name in node.names}
                elif isinstance(node, ast.ExceptHandler):
                    known.add(node.name)
            for node in ast.walk(tree):
                if isinstance(node, ast.Name):
                    self.assertIn(node.id, known, path)

    def test_imports(self):
        defined = {}
        for path, text in files():
            defined[f"sameface.{path.stem}"] = {
                node.targets[0].id if isinstance(node, ast.Assign) else getattr(node, "name", None)
                for node in ast.parse(text).body
            }
        for path, text in files():
            tree = ast.parse(text)
            used = {node.id for node in ast.walk(tree) if isinstance(node, ast.Name)}
            for node in ast.walk(tree):
                if isinstance(node, ast.ImportFrom):
                    self.assertEqual(node.level, 0, path)
                    self.assertIn(node.module, defined, path)
                    for name in node.names:
                        self.assertIn(name.name, defined[node.module], path)
                        self.assertIn(name.name, used, path)

    def test_attributes_and_methods_have_unlike_names(self):
        methods, attributes = set(), set()
        for path, text in files():
            for node in ast.walk(ast.parse(text)):
                if isinstance(node, ast.ClassDef):
                    methods |= {row.name for row in node.body if isinstance(row, ast.FunctionDef)}
                if isinstance(node, ast.Attribute) and isinstance(node.ctx, ast.Store):
                    attributes.add(node.attr)
        self.assertEqual(methods & attributes, set())

    def test_methods(self):
        trees = {path: ast.parse(text) for path, text in files()}
        own = set(METHODS) | {"__init__"}
        for tree in trees.values():
            for node in ast.walk(tree):
                if isinstance(node, ast.ClassDef):
                    own |= {row.name for row in node.body if isinstance(row, ast.FunctionDef)}
        for path, tree in trees.items():
            for node in ast.walk(tree):
                if isinstance(node, ast.Call) and isinstance(node.func, ast.Attribute):
                    self.assertIn(node.func.attr, own, path)

    def test_iterated_on_the_spot(self):
        for path, text in files():
            tree = ast.parse(text)
            generators = [
                node.name
                for node in tree.body
                if isinstance(node, ast.FunctionDef) and any(isinstance(part, ast.Yield) for part in ast.walk(node))
            ]
            places = []
            for node in ast.walk(tree):
                if isinstance(node, (ast.For, ast.comprehension)):
                    places.append(node.iter)
                elif isinstance(node, ast.Call) and isinstance(node.func, ast.Name) and node.func.id in ITERATING:
                    places.extend(node.args[:1])
            for node in ast.walk(tree):
                if isinstance(node, ast.Call) and isinstance(node.func, ast.Name):
                    if node.func.id in (*ITERATED, *generators):
                        self.assertIn(node, places, (path, node.lineno))

    def test_calls_pass_what_is_taken(self):
        functions, methods = {}, {}
        for path, text in files():
            tree = ast.parse(text)
            for node in tree.body:
                if isinstance(node, ast.FunctionDef):
                    functions.setdefault(node.name, set()).add(len(node.args.args))
                elif isinstance(node, ast.ClassDef):
                    for row in node.body:
                        if isinstance(row, ast.FunctionDef):
                            methods.setdefault(row.name, set()).add(len(row.args.args) - 1)
        for path, text in files():
            for node in ast.walk(ast.parse(text)):
                if isinstance(node, ast.Call) and isinstance(node.func, ast.Name) and node.func.id in functions:
                    self.assertEqual({len(node.args)}, functions[node.func.id], (path, node.lineno))
                elif isinstance(node, ast.Call) and isinstance(node.func, ast.Attribute) and node.func.attr in methods:
                    if node.func.attr != "__init__":
                        self.assertEqual({len(node.args)}, methods[node.func.attr], (path, node.lineno))

    def test_no_local_name_is_a_class_or_an_import(self):
        for path, text in files():
            tree = ast.parse(text)
            taken = {node.name for node in tree.body if isinstance(node, ast.ClassDef)}
            for node in tree.body:
                if isinstance(node, ast.ImportFrom):
                    taken |= {name.asname or name.name for name in node.names}
            for node in ast.walk(tree):
                if isinstance(node, ast.Name) and isinstance(node.ctx, ast.Store):
                    self.assertNotIn(node.id, taken, (path, node.lineno))
                elif isinstance(node, ast.arg):
                    self.assertNotIn(node.arg, taken, (path, node.lineno))

    def test_behind_stars_of_calls(self):
        for path, text in files():
            for node in ast.walk(ast.parse(text)):
                if isinstance(node, ast.Call):
                    for part in node.args:
                        if isinstance(part, ast.Starred):
                            self.assertIsInstance(part.value, (ast.Name, ast.Attribute), (path, node.lineno))
                    self.assertTrue(all(word.arg in ("key", "default", "reverse") for word in node.keywords), path)

    def test_no_two_files_import_each_other(self):
        imports = {}
        for path, text in files():
            froms = [node.module for node in ast.parse(text).body if isinstance(node, ast.ImportFrom)]
            imports[f"sameface.{path.stem}"] = set(froms)
        for start in imports:
            seen, waiting = set(), [start]
            while waiting:
                for name in imports[waiting.pop()] - seen:
                    seen.add(name)
                    waiting.append(name)
            self.assertNotIn(start, seen)

    def test_a_caught_errors_name_is_its_own(self):
        for path, text in files():
            for node in ast.walk(ast.parse(text)):
                if isinstance(node, ast.FunctionDef):
                    parts = list(ast.walk(node))
                    caught = [part.name for part in parts if isinstance(part, ast.ExceptHandler) and part.name]
                    names = [part for part in parts if isinstance(part, ast.Name)]
                    stored = [part.id for part in names if isinstance(part.ctx, ast.Store)]
                    self.assertEqual(len(caught), len(set(caught)), path)
                    self.assertEqual(set(caught) & set(stored), set(), path)

    def test_methods_of_the_interface(self):
        for stem, name, methods in (
            (
                "house",
                "House",
                "__init__(self, uses) uses_now(self) names_held(self) kind_of(self, name) alike_held(self, one, other) "
                "give_name(self, name, label, deed, handed) ask_deed(self, label, deed, handed) drop_name(self, name) "
                "change(self, label, making) looked(self)",
            ),
            ("desk", "Desk", "__init__(self) say(self, line) answers(self, lines)"),
        ):
            tree = ast.parse((PACKAGE / f"{stem}.py").read_text(encoding="utf-8"))
            found = [node for node in tree.body if isinstance(node, ast.ClassDef) and node.name == name][0]
            defined = {f"{row.name}({ast.unparse(row.args)})" for row in found.body if isinstance(row, ast.FunctionDef)}
            self.assertLessEqual(set(re.findall(r"[a-zA-Z_]+\([^)]*\)", methods)), defined, stem)

    def test_interface(self):
        for stem, names in INTERFACE.items():
            tree = ast.parse((PACKAGE / f"{stem}.py").read_text(encoding="utf-8"))
            defined = {node.name for node in tree.body if isinstance(node, ast.ClassDef)}
            for node in tree.body:
                if isinstance(node, ast.FunctionDef):
                    defined.add(f"{node.name}({ast.unparse(node.args)})")
            self.assertLessEqual(set(re.findall(r"[a-zA-Z_]+(?:\([^)]*\))?", names)), defined, stem)


if __name__ == "__main__":
    unittest.main()
