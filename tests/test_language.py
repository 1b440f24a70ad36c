"""The form of the code: the rules L1 to L28, as far as they can be read off the source."""

import ast
import builtins
import re
import unittest
from pathlib import Path

ROOT = Path(__file__).resolve().parent.parent / "clashnumber"
FILES = sorted(ROOT.rglob("*.py"))
BUILTINS = set(
    "len range enumerate zip min max sum abs sorted reversed int str bool bytes list tuple dict set frozenset isinstance"
    " ord repr any all divmod pow getattr hasattr setattr Exception ValueError TypeError KeyError IndexError LookupError"
    " ZeroDivisionError ArithmeticError OverflowError RuntimeError NotImplementedError AttributeError StopIteration"
    " NotImplemented iter next map property staticmethod classmethod super".split()
)
METHODS = set(
    "append clear copy count endswith extend find get index insert isalnum isalpha isdigit islower isspace isupper items"
    " join keys ljust lower lstrip partition pop remove replace reverse rfind rjust rpartition rsplit rstrip setdefault"
    " split splitlines startswith strip update upper values zfill bit_length title capitalize swapcase casefold center"
    " expandtabs removeprefix removesuffix rindex isascii isdecimal isnumeric istitle isidentifier isprintable add"
    " discard".split()
)
DUNDERS = set(
    "init eq repr str len enter exit call iter lt le gt ge ne add sub mul floordiv mod pow and or xor lshift rshift radd"
    " rsub rmul rfloordiv rmod rand ror rxor rlshift rrshift iadd isub imul ifloordiv imod ipow iand ior ixor ilshift"
    " irshift neg pos invert abs bool contains getitem setitem".split()
)
STATEMENTS = (
    ast.Assign, ast.AugAssign, ast.AnnAssign, ast.If, ast.While, ast.For, ast.Return, ast.Break, ast.Continue, ast.Pass,
    ast.Raise, ast.Assert, ast.Delete, ast.Nonlocal, ast.Match, ast.With, ast.Try, ast.Expr, ast.FunctionDef,
    ast.ClassDef, ast.ImportFrom,
)
BARRED_NAMES = set(
    "register mro elements open input law version_info with_traceback add_note attrgetter breakpoint builtins compile"
    " copyright credits delattr dir eval exec exit gc globals help id importlib license locals methodcaller os quit type"
    " vars sys".split()
)
BARRED_ATTRIBUTES = set(
    "items keys values pop update append clear extend insert remove reverse setdefault sort args encode decode hex"
    " fromhex format format_map mro register elements open input law as_integer_ratio bit_count conjugate from_bytes"
    " is_integer to_bytes".split()
)
BARRED_WORDS = re.compile(
    r"\b(type|typing|typing_extensions|enum|Enum|IntEnum|StrEnum|Flag|IntFlag|Generic|Protocol|ABC|ABCMeta|namedtuple"
    r"|NamedTuple|TypedDict|TYPE_CHECKING|abstractmethod)\b|dataclass|overload|contextmanager|_wall|_WallAttr|\(type\)"
    r"|Meta|metaclass="
)
CHANGES = set("append extend insert pop remove clear reverse setdefault update add discard sort".split())
MAKES = ("list", "dict", "set", "sorted")
AT_ONCE = ("list", "tuple", "dict", "sorted", "sum", "any", "all", "enumerate", "zip", "min", "max", "len")


def word(node):
    """The name of what a call calls."""
    return getattr(node.func, "id", None) or getattr(node.func, "attr", None)


def is_setter(function):
    return any(isinstance(one, ast.Attribute) for one in function.decorator_list)


def bound_names(function):
    """The parameters and local variables of a function, those of comprehensions too."""
    some = function.args
    more = [one for one in (some.vararg, some.kwarg) if one]
    names = [one.arg for one in some.posonlyargs + some.args + some.kwonlyargs + more]
    return names + [node.id for node in ast.walk(function) if isinstance(node, ast.Name) and isinstance(node.ctx, ast.Store)]


def has_decorator(function, name):
    return any(getattr(one, "id", "") == name for one in function.decorator_list)


def parameters(function):
    some = function.args
    return {one.arg for one in some.posonlyargs + some.args + some.kwonlyargs + [some.vararg, some.kwarg] if one}


def is_new(value, classes):
    """Whether an expression surely makes a list, a dict, a set or an own object that nobody else has."""
    if isinstance(value, (ast.List, ast.Dict, ast.ListComp, ast.DictComp)):
        return True
    if isinstance(value, ast.BinOp) and isinstance(value.op, (ast.Mult, ast.Add)):
        return is_new(value.left, classes) or is_new(value.right, classes)
    return isinstance(value, ast.Call) and getattr(value.func, "id", "") in MAKES + classes


def new_locals(function, classes):
    """The local variables that are only ever assigned what is new."""
    made, other = set(), set(parameters(function))
    for node in ast.walk(function):
        if isinstance(node, (ast.Assign, ast.AugAssign)):
            for target in node.targets if isinstance(node, ast.Assign) else [node.target]:
                if isinstance(target, ast.Name):
                    (made if is_new(node.value, classes) else other).add(target.id)
                elif isinstance(target, ast.Tuple):
                    other |= {part.id for part in target.elts if isinstance(part, ast.Name)}
        if isinstance(node, (ast.For, ast.comprehension)):
            other |= {part.id for part in ast.walk(node.target) if isinstance(part, ast.Name)}
    return made - other


def changed_in(part):
    """What is changed in a part of the source: what an item or an attribute is set of, or a changing method called of."""
    found = []
    for node in ast.walk(part):
        if isinstance(node, (ast.Subscript, ast.Attribute)) and not isinstance(node.ctx, ast.Load):
            found.append(node.value)
        elif isinstance(node, ast.Call) and isinstance(node.func, ast.Attribute) and node.func.attr in CHANGES:
            found.append(node.func.value)
    return found


def walked_by(node):
    """The names and the attributes that a loop over this goes over, not over a copy of them."""
    if isinstance(node, (ast.Name, ast.Attribute)):
        return [node]
    if isinstance(node, ast.Subscript):
        return walked_by(node.value)
    if isinstance(node, ast.IfExp):
        return walked_by(node.body) + walked_by(node.orelse)
    if isinstance(node, ast.BoolOp):
        return [found for part in node.values for found in walked_by(part)]
    if isinstance(node, ast.Call) and word(node) in ("zip", "enumerate", "reversed", "items", "keys", "values"):
        held = [node.func.value] if isinstance(node.func, ast.Attribute) else []
        return [found for part in held + node.args for found in walked_by(part)]
    return []


def around(node, function):
    """What stands around a part of a function, within the function."""
    found = []
    while node.parent is not function:
        node = node.parent
        found.append(node)
    return found


class LanguageTests(unittest.TestCase):
    @classmethod
    def setUpClass(cls):
        cls.trees = {path: ast.parse(path.read_text("ascii")) for path in FILES}
        for tree in cls.trees.values():
            for node in ast.walk(tree):
                for child in ast.iter_child_nodes(node):
                    child.parent = node
        nodes = [node for tree in cls.trees.values() for node in ast.walk(tree)]
        cls.functions = [node for node in nodes if isinstance(node, ast.FunctionDef)]
        cls.classes = [node for node in nodes if isinstance(node, ast.ClassDef)]
        cls.generators = {
            node.name for node in cls.functions
            if any(isinstance(part, (ast.Yield, ast.YieldFrom)) for part in ast.walk(node))
        }

    def each(self, *kinds):
        """All nodes of these kinds, with the place to show."""
        for path, tree in self.trees.items():
            for node in ast.walk(tree):
                if isinstance(node, kinds):
                    yield node, f"{path.name}:{getattr(node, 'lineno', 0)}"

    def test_l1_l14_files(self):
        self.assertIn(ROOT / "__init__.py", FILES)
        for path in ROOT.rglob("*"):
            if "__pycache__" not in path.parts:
                self.assertRegex(path.name, r"^[a-z][a-z0-9_]*\.py$|^__init__\.py$", path)
        for path in FILES:
            self.assertRegex(path.read_bytes(), rb"\A[\n -~]*\n\Z", path)

    def test_l10_sizes(self):
        for path in FILES:
            lines = path.read_text().split("\n")
            self.assertLessEqual(len(lines), 399, path)
            self.assertLessEqual(max(map(len, lines)), 120, path)
        for node in self.functions:
            self.assertLessEqual(node.end_lineno - node.lineno + 1, 40, node.name)

    def test_l2_l16_imports(self):
        taken = {}
        for node, place in self.each(ast.Import, ast.ImportFrom):
            self.assertIsInstance(node, ast.ImportFrom, place)
            self.assertIsInstance(node.parent, ast.Module, place)
            self.assertEqual(node.level, 0, place)
            self.assertRegex(node.module, r"^clashnumber\.[a-z]+$", place)
            source = ROOT / (node.module.split(".")[1] + ".py")
            defined = {getattr(part, "name", None) for part in self.trees[source].body}
            defined |= {part.targets[0].id for part in self.trees[source].body if isinstance(part, ast.Assign)}
            for name in node.names:
                self.assertIsNone(name.asname, place)
                self.assertIn(name.name, defined, place)
            taken.setdefault(place.split(":")[0], set()).add(source.name)
        # Files that import none of the remaining ones are taken away until none is left.
        while taken:
            free = [name for name, others in taken.items() if not others & set(taken)]
            self.assertTrue(free, f"{sorted(taken)} import from each other")
            taken = {name: others for name, others in taken.items() if name not in free}

    def test_l3_module_level(self):
        for path, tree in self.trees.items():
            names = []
            for at, node in enumerate(tree.body):
                docstring = at == 0 and isinstance(node, ast.Expr) and isinstance(node.value, ast.Constant)
                self.assertTrue(docstring or isinstance(node, (
                    ast.ImportFrom, ast.FunctionDef, ast.ClassDef, ast.Assign)), f"{path.name}:{node.lineno}")
                if isinstance(node, ast.Assign):
                    self.assertEqual([target.__class__ for target in node.targets], [ast.Name])
                    ast.literal_eval(node.value)
                    names.append(node.targets[0].id)
                names.extend([node.name] if hasattr(node, "name") else [])
                names.extend([name.name for name in node.names] if hasattr(node, "names") else [])
            self.assertEqual(len(names), len(set(names)), path)

    def test_l4_l5_functions_and_classes(self):
        for node in self.functions:
            in_class = isinstance(node.parent, ast.ClassDef)
            for decorator in node.decorator_list:
                self.assertTrue(in_class and isinstance(decorator, (ast.Name, ast.Attribute)), node.name)
                self.assertIn(getattr(decorator, "id", getattr(decorator, "attr", "")),
                              ("classmethod", "staticmethod", "property", "setter"), node.name)
            if node.name.startswith("__"):
                self.assertTrue(in_class, node.name)
                self.assertIn(node.name[2:-2], DUNDERS)
        for node in self.classes:
            self.assertIsInstance(node.parent, ast.Module)
            self.assertEqual([node.decorator_list, node.keywords], [[], []])
            methods = [part.name for part in node.body if isinstance(part, ast.FunctionDef) and not is_setter(part)]
            self.assertEqual(len(methods), len(set(methods)), node.name)
            if "__getitem__" in methods:
                self.assertIn("__iter__", methods)

    def called_by(self, function):
        """All functions and methods of the package that a call in the function can mean."""
        found = []
        for node in ast.walk(function):
            if isinstance(node, ast.Call) and isinstance(node.func, ast.Name):
                found.extend(part for part in self.functions
                             if part.name == node.func.id and isinstance(part.parent, ast.Module))
                found.extend(part for one in self.classes if one.name == node.func.id for part in one.body
                             if getattr(part, "name", "") == "__init__")
            elif isinstance(node, ast.Call):
                found.extend(part for part in self.functions
                             if part.name == node.func.attr and isinstance(part.parent, ast.ClassDef))
        return found

    def test_l5_what_operators_and_properties_run(self):
        apart = ("__init__", "__setitem__", "__call__", "__enter__", "__exit__")
        run = [node for node in self.functions if isinstance(node.parent, ast.ClassDef) and (
            node.name.startswith("__") and node.name not in apart or has_decorator(node, "property"))]
        self.assertGreater(len(run), 20)
        for node in run:
            run.extend(part for part in self.called_by(node) if part not in run)
        names = {node.name for node in run}
        self.assertTrue({"settled_pairs", "tables_joined", "outcome", "narrow", "number_of"} <= names)
        classes = tuple(node.name for node in self.classes)
        methods = {node.name for node in self.functions if isinstance(node.parent, ast.ClassDef)}
        # What has the name of an attribute could be what the object holds.
        held = {node.attr for node, _ in self.each(ast.Attribute) if isinstance(node.ctx, ast.Store)}
        held |= {node.name for node in self.functions if has_decorator(node, "property")}
        inner = (ast.ListComp, ast.DictComp, ast.SetComp, ast.GeneratorExp, ast.Lambda, ast.FunctionDef)
        for function in run:
            made = new_locals(function, classes) | ({"self"} if function.name == "__init__" else set())
            for changed in changed_in(function):
                place = (function.name, changed.lineno)
                self.assertIsInstance(changed, ast.Name, place)
                self.assertIn(changed.id, made, place)
                self.assertFalse([part for part in around(changed, function) if isinstance(part, inner)], place)
                self.assertNotIn(function.name, self.generators, place)
            for node in ast.walk(function):
                place = (function.name, getattr(node, "lineno", 0))
                self.assertNotIsInstance(node, (ast.AugAssign, ast.Delete), place)
                if isinstance(node, ast.Call) and isinstance(node.func, ast.Name):
                    self.assertNotIn(node.func.id, bound_names(function), place)
                    self.assertNotEqual(node.func.id, "map", place)
                elif isinstance(node, ast.Call):
                    self.assertIn(node.func.attr, (METHODS | methods) - held, place)

    def test_l5_properties(self):
        found = {node.name for node in self.functions if has_decorator(node, "property")}
        self.assertEqual(found, {"form", "answers", "settled", "bound"})
        plain = {node.name for node in self.functions if isinstance(node.parent, ast.ClassDef)
                 and not has_decorator(node, "property") and not is_setter(node)}
        self.assertFalse(found & (plain | METHODS))

    def test_l6_l7_statements_and_expressions(self):
        for node, place in self.each(ast.stmt):
            self.assertIsInstance(node, STATEMENTS, place)
            if isinstance(node, ast.Expr):
                kinds = (ast.Call, ast.Yield, ast.YieldFrom, ast.Constant)
                self.assertIsInstance(node.value, kinds, place)
        for node, place in self.each(ast.Div, ast.Await, ast.Global, ast.AsyncFor):
            self.fail(place)
        for node, place in self.each(ast.Constant):
            self.assertNotIsInstance(node.value, (float, complex), place)
            if isinstance(node.value, str):
                self.assertNotIn("%", node.value, place)
        for node, place in self.each(ast.Yield, ast.YieldFrom):
            self.assertIsInstance(node.parent, ast.Expr, place)
        for node, place in self.each(ast.GeneratorExp):
            self.assertNotIn(word(node.parent), ("any", "all", "min", "max", "sum", "sorted"), place)
        for node, place in self.each(ast.Pow):
            self.assertIsInstance(node.parent.right, ast.Constant, place)

    def test_l8_l12_l15_l17_names(self):
        own = {node.name for node in self.functions + self.classes}
        for path, tree in self.trees.items():
            stored = {node.id for node in ast.walk(tree) if isinstance(node, ast.Name) and isinstance(node.ctx, ast.Store)}
            fixed = {name.name for node in tree.body if isinstance(node, ast.ImportFrom) for name in node.names}
            classes = {node.name for node in tree.body if isinstance(node, ast.ClassDef)}
            for node in ast.walk(tree):
                if isinstance(node, ast.FunctionDef):
                    names = bound_names(node)
                    self.assertFalse(set(names) & (fixed | classes | set(dir(builtins)) | BARRED_NAMES), node.name)
                    for name in names + [node.name.strip("_")]:
                        self.assertRegex(name, r"^_?[A-Za-z][A-Za-z0-9_]*$|^_$")
                    stored |= set(names)
                if isinstance(node, ast.Name) and isinstance(node.ctx, ast.Load):
                    self.assertIn(node.id, stored | fixed | own | BUILTINS, f"{path.name}:{node.lineno}")
                    self.assertNotEqual(node.id, "_", f"{path.name}:{node.lineno}")
        for node in self.functions + self.classes:
            if not isinstance(getattr(node, "parent"), ast.ClassDef):
                self.assertNotIn(node.name, dir(builtins))
            self.assertNotIn(node.name, BARRED_NAMES)

    def test_l17_words(self):
        for path, tree in self.trees.items():
            self.assertIsNone(BARRED_WORDS.search(path.read_text()), path)

    def test_l18_l26_attributes_and_methods(self):
        stored = {node.attr for node, _ in self.each(ast.Attribute) if isinstance(node.ctx, ast.Store)}
        methods = {node.name for node in self.functions if isinstance(node.parent, ast.ClassDef)}
        self.assertFalse(stored & BARRED_ATTRIBUTES)
        for node, place in self.each(ast.Attribute):
            self.assertIn(node.attr, stored | methods | METHODS | {"setter"}, place)
            if isinstance(node.ctx, ast.Store):
                self.assertIsInstance(node.value, ast.Name, place)
        for node in self.classes:
            own = {part.attr for part in ast.walk(node) if isinstance(part, ast.Attribute)
                   and isinstance(part.ctx, ast.Store) and getattr(part.value, "id", "") == "self"}
            self.assertFalse(own & {part.name for part in node.body if isinstance(part, ast.FunctionDef)}, node.name)

    def test_l19_errors(self):
        errors = {node.name for node in self.trees[ROOT / "errors.py"].body if isinstance(node, ast.ClassDef)}
        for node, place in self.each(ast.ExceptHandler):
            self.assertIsNotNone(node.type, place)
            for name in node.type.elts if isinstance(node.type, ast.Tuple) else [node.type]:
                self.assertIn(name.id, errors | {"KeyError", "ZeroDivisionError"}, place)
        for node, place in self.each(ast.Raise):
            if node.exc is not None:
                self.assertIsInstance(node.exc, ast.Call, place)
                self.assertIn(node.exc.func.id, errors, place)

    def test_l20_is(self):
        for node, place in self.each(ast.Compare):
            for sign, other in zip(node.ops, node.comparators):
                if isinstance(sign, (ast.Is, ast.IsNot)):
                    self.assertTrue(isinstance(other, ast.Constant) and other.value in (None, True, False), place)

    def test_l23_iterated_at_once(self):
        for node, place in self.each(ast.Call):
            if word(node) in ("zip", "enumerate", "reversed", "range", "map", "items", "keys", "values"):
                around = node.parent
                iterated = isinstance(around, (ast.For, ast.comprehension)) and around.iter is node
                self.assertTrue(iterated or isinstance(around, ast.Call) and word(around) in AT_ONCE, place)
            if word(node) in self.generators:
                around = node.parent
                self.assertIsInstance(around, (ast.For, ast.comprehension, ast.YieldFrom, ast.Call), place)
            if word(node) == "reversed" and isinstance(node.func, ast.Name):
                self.assertIsInstance(node.args[0], (ast.Call, ast.List, ast.Tuple), place)
            self.assertFalse(word(node) == "sort", place)

    def test_l23_what_a_loop_goes_over_is_not_changed_in_it(self):
        for node, place in self.each(ast.For, ast.ListComp, ast.DictComp, ast.SetComp, ast.GeneratorExp):
            heads = [node.iter] if isinstance(node, ast.For) else [part.iter for part in node.generators]
            walked = [found for head in heads for found in walked_by(head)]
            names = {part.id for part in walked if isinstance(part, ast.Name)}
            for changed in changed_in(node):
                while isinstance(changed, ast.Subscript):
                    changed = changed.value
                self.assertNotIn(getattr(changed, "id", None), names, place)
                # An attribute that is changed may be what another attribute that is gone over holds.
                if not isinstance(changed, ast.Name):
                    self.assertFalse([part for part in walked if isinstance(part, ast.Attribute)], place)

    def test_l24_sets(self):
        for node, place in self.each(ast.Call, ast.Set, ast.SetComp):
            if isinstance(node, ast.Call) and not (isinstance(node.func, ast.Name) and node.func.id == "set"):
                continue
            around = node.parent
            while isinstance(around, ast.BinOp):
                around = around.parent
            in_place = isinstance(around, ast.Compare) or isinstance(around, ast.Call) and word(around) in ("sorted", "len")
            kept = isinstance(around, ast.Assign) and isinstance(node.parent, ast.Assign)
            self.assertTrue(in_place or kept, place)

    def test_l7_what_stands_behind_a_star(self):
        for node, place in self.each(ast.Call):
            starred = [at for at, part in enumerate(node.args) if isinstance(part, ast.Starred)]
            if not starred:
                continue
            self.assertIsInstance(node.args[starred[0]].value, (ast.Name, ast.Attribute), place)
            for part in node.args[starred[0] + 1:] + [keyword.value for keyword in node.keywords]:
                self.assertIsInstance(part, (ast.Name, ast.Attribute, ast.Constant), place)

    def test_l28_double_underscore_methods(self):
        for node in self.functions:
            returns = [part for part in ast.walk(node) if isinstance(part, ast.Return)]
            if node.name == "__init__":
                self.assertFalse(returns)
            if node.name in ("__len__", "__str__", "__repr__"):
                self.assertIsInstance(node.body[-1], ast.Return)
            if node.name == "__iter__":
                self.assertEqual(len(node.body), 1)
            if node.name == "__eq__":
                self.assertIsInstance(node.body[0], (ast.Return, ast.If))


if __name__ == "__main__":
    unittest.main()
