"""What of the rules of the language a program can check by itself, file by file."""

import ast
import builtins
import re
import unittest
from pathlib import Path

PACKAGE = Path(__file__).resolve().parent.parent / "selfwritten"

BUILTINS = set("""
len range enumerate zip min max sum abs sorted reversed int str bool bytes list tuple dict set frozenset
isinstance ord repr any all divmod pow getattr hasattr setattr Exception ValueError TypeError KeyError
IndexError LookupError ZeroDivisionError ArithmeticError OverflowError RuntimeError NotImplementedError
AttributeError StopIteration NotImplemented iter next map property staticmethod classmethod super
""".split())

METHODS = set("""
append clear copy count endswith extend find get index insert isalnum isalpha isdigit islower isspace isupper
items join keys ljust lower lstrip partition pop remove replace reverse rfind rjust rpartition rsplit rstrip
setdefault split splitlines startswith strip update upper values zfill bit_length title capitalize swapcase
casefold center expandtabs removeprefix removesuffix rindex isascii isdecimal isnumeric istitle isidentifier
isprintable translate maketrans sort add discard format
""".split())

LIBRARY = {
    "heapq": {"heappush", "heappop", "heapify", "heapreplace", "heappushpop"},
    "math": {"gcd", "lcm", "isqrt", "comb", "perm", "factorial"},
    "itertools": {"chain", "accumulate", "pairwise", "islice", "zip_longest"},
    "collections": {"defaultdict"},
}

DUNDERS = set("""
__init__ __eq__ __repr__ __str__ __len__ __enter__ __exit__ __call__ __iter__ __lt__ __le__ __gt__ __ge__ __ne__
__add__ __sub__ __mul__ __floordiv__ __mod__ __and__ __or__ __xor__ __neg__ __bool__ __contains__ __getitem__
__setitem__
""".split())

NOWHERE = {"register", "mro", "elements", "open", "input", "law", "version_info", "with_traceback", "add_note"}

WORDS = re.compile(r"\b(type|typing|typing_extensions|enum|Enum|IntEnum|StrEnum|Flag|IntFlag|Generic|Protocol|ABC"
                   r"|ABCMeta|namedtuple|NamedTuple|TypedDict|TYPE_CHECKING|abstractmethod)\b"
                   r"|dataclass|overload|contextmanager|_wall|_WallAttr")

NOT_ATTRIBUTES = set("""
items keys values pop update append clear extend insert remove reverse setdefault sort args encode decode hex
fromhex format as_integer_ratio bit_count conjugate from_bytes is_integer to_bytes
""".split())

FILES = sorted(PACKAGE.rglob("*.py"))
TREES = {path: ast.parse(path.read_text()) for path in FILES}


def nodes(kind):
    """Pairs of a place in a file and a node of this kind."""
    for path, tree in TREES.items():
        for node in ast.walk(tree):
            if isinstance(node, kind):
                yield f"{path.name}:{getattr(node, 'lineno', 0)}", node


def own_functions():
    return {node.name for _, node in nodes((ast.FunctionDef, ast.ClassDef))}


def bound_names(function):
    """The parameters and local names of a function."""
    every = function.args.posonlyargs + function.args.args + function.args.kwonlyargs
    names = [one.arg for one in every + [function.args.vararg, function.args.kwarg] if one is not None]
    for node in ast.walk(function):
        if isinstance(node, ast.Name) and isinstance(node.ctx, ast.Store):
            names.append(node.id)
    return names


class Files(unittest.TestCase):
    def test_only_plain_files(self):
        for path in PACKAGE.rglob("*"):
            if "__pycache__" not in path.parts:
                self.assertTrue(path.suffix == ".py" or path.is_dir(), path)
                self.assertRegex(path.stem, r"^[a-z][a-z0-9_]*$|^__(init|main)__$")
        self.assertLessEqual(len(FILES), 100)
        banned = {"test", "tests", "testing", "site", "conftest", "sitecustomize", "usercustomize", "heapq", "math",
                  "itertools", "typing", "enum", "abc"}
        for path in FILES:
            self.assertNotIn(path.stem, banned | set(dir(builtins)))
            self.assertFalse(path.stem.startswith(("law_", "test_")))

    def test_sizes_and_characters(self):
        for path in FILES:
            text = path.read_text()
            self.assertRegex(text, r"\A[ -~\n]*\Z", path)
            lines = text.splitlines()
            self.assertLessEqual(len(lines), 399, path)
            self.assertLessEqual(max([len(line) for line in lines], default=0), 120, path)
        for where, node in nodes(ast.FunctionDef):
            self.assertLessEqual(node.end_lineno - node.lineno + 1, 40, where)

    def test_words_that_do_not_occur(self):
        for path, tree in TREES.items():
            docs = [ast.get_docstring(node, clean=False) for node in ast.walk(tree)
                    if isinstance(node, (ast.Module, ast.ClassDef, ast.FunctionDef))]
            text = "\n".join(line.split("#")[0] for line in path.read_text().splitlines())
            for doc in docs:
                if doc:
                    text = text.replace(doc, "")
            self.assertIsNone(WORDS.search(text), path)

    def test_no_warnings(self):
        import warnings
        with warnings.catch_warnings():
            warnings.simplefilter("error")
            for path in FILES:
                compile(path.read_text(), str(path), "exec")


class Modules(unittest.TestCase):
    def test_imports(self):
        defined = {}
        for path, tree in TREES.items():
            names = [name for node in tree.body for name in bound_at(node)]
            self.assertEqual(len(names), len(set(names)), path)
            defined[path.stem] = {node.name for node in tree.body if hasattr(node, "name")}
            defined[path.stem] |= {node.targets[0].id for node in tree.body if isinstance(node, ast.Assign)}
        for where, node in nodes((ast.Import, ast.ImportFrom)):
            self.assertIsInstance(node, ast.ImportFrom, where)
            self.assertEqual((node.level, node.col_offset), (0, 0), where)
            top, _, module = node.module.partition(".")
            for alias in node.names:
                self.assertIsNone(alias.asname, where)
                allowed = defined[module] if top == "selfwritten" else LIBRARY[node.module]
                self.assertIn(alias.name, allowed, where)

    def test_no_two_files_import_from_each_other(self):
        ahead = {path.stem: {node.module.split(".")[1] for node in ast.walk(tree)
                             if isinstance(node, ast.ImportFrom) and node.module.startswith("selfwritten.")}
                 for path, tree in TREES.items()}
        while ahead:
            free = [name for name in ahead if not ahead[name] & set(ahead)]
            self.assertTrue(free, ahead)
            for name in free:
                del ahead[name]

    def test_module_level(self):
        for path, tree in TREES.items():
            for at, node in enumerate(tree.body):
                where = f"{path.name}:{node.lineno}"
                if isinstance(node, ast.Expr):
                    self.assertEqual(at, 0, where)
                    self.assertIsInstance(node.value.value, str, where)
                elif isinstance(node, ast.Assign):
                    self.assertEqual(len(node.targets), 1, where)
                    ast.literal_eval(node.value)
                else:
                    self.assertIsInstance(node, (ast.ImportFrom, ast.FunctionDef, ast.ClassDef), where)

    def test_module_level_tables_are_flat(self):
        for path, tree in TREES.items():
            for node in tree.body:
                if isinstance(node, ast.Assign):
                    value = ast.literal_eval(node.value)
                    inner = list(value.values()) if isinstance(value, dict) else value
                    if isinstance(inner, (list, tuple)):
                        self.assertFalse([one for one in inner if isinstance(one, (list, dict, set))], path)


    def test_module_level_tables_are_read_only(self):
        tables = {}
        for path, tree in TREES.items():
            for node in tree.body:
                if isinstance(node, ast.Assign) and isinstance(node.value, (ast.List, ast.Dict)):
                    tables[path.stem, node.targets[0].id] = True
        for path, tree in TREES.items():
            own = {name for stem, name in tables if stem == path.stem}
            for node in tree.body:
                if isinstance(node, ast.ImportFrom):
                    stem = node.module.rpartition(".")[2]
                    own |= {alias.name for alias in node.names if (stem, alias.name) in tables}
            fine = set()
            for node in ast.walk(tree):
                if isinstance(node, ast.Subscript) and isinstance(node.ctx, ast.Load):
                    fine.add(id(node.value))
                elif isinstance(node, ast.Compare):
                    fine |= {id(one) for one in node.comparators}
                elif isinstance(node, (ast.For, ast.comprehension)):
                    fine.add(id(node.iter))
                elif isinstance(node, ast.Call) and getattr(node.func, "attr", "") in ("get", "items", "keys", "values"):
                    fine.add(id(node.func.value))
                elif isinstance(node, ast.Call) and getattr(node.func, "id", "") in ("len", "list", "dict", "sorted", "tuple"):
                    fine |= {id(one) for one in node.args}
            for node in ast.walk(tree):
                if isinstance(node, ast.Name) and isinstance(node.ctx, ast.Load) and node.id in own:
                    self.assertIn(id(node), fine, f"{path.name}:{node.lineno}")


def bound_at(node):
    if isinstance(node, ast.ImportFrom):
        return [alias.name for alias in node.names]
    if isinstance(node, ast.Assign):
        return [target.id for target in node.targets]
    return [node.name] if hasattr(node, "name") else []


class Names(unittest.TestCase):
    def test_plain_names(self):
        shape = re.compile(r"^(_?[A-Za-z][A-Za-z0-9_]*|_)$")
        for where, node in nodes((ast.Name, ast.arg, ast.Attribute, ast.FunctionDef, ast.ClassDef)):
            name = [getattr(node, kind) for kind in ("id", "arg", "attr", "name") if hasattr(node, kind)][0]
            self.assertTrue(shape.match(name) or name in DUNDERS, where)
            self.assertNotIn(name, NOWHERE, where)
            self.assertNotRegex(name, r"^(f|tb|co|gi|cr|ag)_", where)

    def test_underscore_is_never_read(self):
        for where, node in nodes(ast.Name):
            self.assertFalse(node.id == "_" and isinstance(node.ctx, ast.Load), where)

    def test_builtins(self):
        for where, node in nodes(ast.Name):
            if hasattr(builtins, node.id):
                self.assertIn(node.id, BUILTINS, where)
                self.assertIsInstance(node.ctx, ast.Load, where)

    def test_local_names(self):
        for path, tree in TREES.items():
            taken = {alias.name for node in tree.body if isinstance(node, ast.ImportFrom) for alias in node.names}
            taken |= {node.name for node in tree.body if isinstance(node, ast.ClassDef)}
            for node in ast.walk(tree):
                if isinstance(node, ast.FunctionDef):
                    for name in bound_names(node):
                        self.assertNotIn(name, taken, f"{path.name}:{node.lineno}")
                        self.assertFalse(hasattr(builtins, name), f"{path.name}:{node.lineno} {name}")
                if isinstance(node, (ast.FunctionDef, ast.ClassDef)) and node in tree.body:
                    self.assertFalse(hasattr(builtins, node.name), node.name)

    def test_methods_of_values(self):
        own = own_functions()
        for where, node in nodes(ast.Call):
            if isinstance(node.func, ast.Attribute):
                self.assertIn(node.func.attr, METHODS | own | DUNDERS, where)
                if node.func.attr not in own:
                    self.assertEqual(node.keywords, [], where)

    def test_attributes(self):
        methods = {node.name for _, node in nodes(ast.FunctionDef)}
        assigned = {node.attr for _, node in nodes(ast.Attribute) if isinstance(node.ctx, ast.Store)}
        self.assertEqual(assigned & NOT_ATTRIBUTES, set())
        for where, node in nodes(ast.Attribute):
            self.assertIn(node.attr, assigned | methods | METHODS, where)

    def test_no_name_is_a_method_here_and_an_attribute_there(self):
        methods = {one.name for _, node in nodes(ast.ClassDef) for one in node.body if isinstance(one, ast.FunctionDef)}
        kept = {node.attr for _, node in nodes(ast.Attribute) if isinstance(node.ctx, ast.Store)}
        self.assertEqual(methods & kept, set())

    def test_no_name_is_a_method_and_an_attribute(self):
        for where, node in nodes(ast.ClassDef):
            methods = [one.name for one in node.body if isinstance(one, ast.FunctionDef)]
            self.assertEqual(len(methods), len(set(methods)), where)
            kept = {one.attr for one in ast.walk(node)
                    if isinstance(one, ast.Attribute) and isinstance(one.ctx, ast.Store)}
            self.assertEqual(kept & set(methods), set(), where)


class Statements(unittest.TestCase):
    def test_kinds(self):
        for kind in (ast.Global, ast.AsyncFunctionDef, ast.AsyncFor, ast.AsyncWith, ast.Await, ast.Starred,
                     ast.AnnAssign, ast.Div, ast.Import, ast.GeneratorExp, ast.With, ast.YieldFrom,
                     ast.Set, ast.SetComp, ast.Lambda, ast.NamedExpr, ast.Match):
            self.assertEqual([where for where, _ in nodes(kind)], [], kind)

    def test_generators(self):
        makers = {node.name for _, node in nodes(ast.FunctionDef)
                  if [one for one in ast.walk(node) if isinstance(one, ast.Yield)]}
        for path, tree in TREES.items():
            yields = [node for node in ast.walk(tree) if isinstance(node, ast.Yield)]
            alone = [node.value for node in ast.walk(tree) if isinstance(node, ast.Expr)]
            self.assertTrue(all(one in alone for one in yields), path)
            iterated = [node.iter for node in ast.walk(tree) if isinstance(node, (ast.For, ast.comprehension))]
            for node in ast.walk(tree):
                if isinstance(node, ast.Call) and getattr(node.func, "id", "") in makers:
                    self.assertIn(node, iterated, f"{path.name}:{node.lineno}")
        for where, node in nodes((ast.Name, ast.arg)):
            if getattr(node, "id", getattr(node, "arg", "")) in makers:
                self.assertIsInstance(node, ast.Name, where)
                self.assertIsInstance(node.ctx, ast.Load, where)
        heads = [node.name for _, node in nodes(ast.FunctionDef)]
        self.assertTrue(all(heads.count(name) == 1 for name in makers))
        self.assertNotIn("next", {node.id for _, node in nodes(ast.Name)})

    def test_only_own_errors_are_caught(self):
        own = {node.name for node in TREES[PACKAGE / "errors.py"].body if isinstance(node, ast.ClassDef)}
        for where, node in nodes(ast.Try):
            self.assertEqual((node.orelse, node.finalbody), ([], []), where)
            for handler in node.handlers:
                self.assertIsNone(handler.name, where)
                caught = handler.type.elts if isinstance(handler.type, ast.Tuple) else [handler.type]
                self.assertLessEqual({one.id for one in caught}, own, where)

    def test_literals(self):
        for where, node in nodes(ast.Constant):
            self.assertNotIsInstance(node.value, (float, complex, type(...)), where)
            if isinstance(node.value, str):
                self.assertNotIn("%", node.value, where)
                self.assertNotRegex(node.value, r"\._{1,2}\Z|\A__.*__\Z", where)
        for path in FILES:
            self.assertNotRegex(path.read_text(), r"\\[^nt\\'\"]", path)

    def test_is_with_none_true_and_false_only(self):
        for where, node in nodes(ast.Compare):
            for op, other in zip(node.ops, node.comparators):
                if isinstance(op, (ast.Is, ast.IsNot)):
                    self.assertIsInstance(other, ast.Constant, where)
                    self.assertIn(other.value, (None, True, False), where)

    def test_powers_and_calls(self):
        for where, node in nodes(ast.BinOp):
            self.assertNotIsInstance(node.op, ast.Pow, where)
        for where, node in nodes(ast.Call):
            if isinstance(node.func, ast.Name) and hasattr(builtins, node.func.id):
                names = {keyword.arg for keyword in node.keywords}
                self.assertLessEqual(names, {"key", "reverse", "default", "start", "strict"}, where)

    def test_views_are_iterated_at_once(self):
        once = {"zip", "enumerate", "reversed", "map", "items", "keys", "values"}
        fine = {"list", "tuple", "dict", "sorted", "sum", "any", "all", "enumerate", "zip", "min", "max", "len"}
        for path, tree in TREES.items():
            held = set()
            for node in ast.walk(tree):
                if isinstance(node, (ast.For, ast.comprehension)):
                    held.add(id(node.iter))
                if isinstance(node, ast.Call) and isinstance(node.func, ast.Name) and node.func.id in fine:
                    held |= {id(one) for one in node.args}
            for node in ast.walk(tree):
                if isinstance(node, ast.Call):
                    name = getattr(node.func, "id", getattr(node.func, "attr", ""))
                    if name in once and name not in own_functions():
                        self.assertIn(id(node), held, f"{path.name}:{node.lineno}")

    def test_sets(self):
        for where, node in nodes(ast.Call):
            if isinstance(node.func, ast.Name):
                self.assertNotIn(node.func.id, ("set", "frozenset"), where)


CHANGING = {"append", "clear", "extend", "insert", "pop", "remove", "reverse", "setdefault", "sort", "update", "add",
            "discard"}
PASSING = {"enumerate", "zip", "reversed", "iter"}
VIEWS = {"items", "keys", "values", "get", "setdefault"}


def roots(node):
    """The names from which the value is reached: by fields, items, choices and views, but not by a copy."""
    if isinstance(node, ast.Name):
        return {node.id}
    if isinstance(node, (ast.Attribute, ast.Starred)):
        return roots(node.value)
    if isinstance(node, ast.Subscript):
        return set() if isinstance(node.slice, ast.Slice) else roots(node.value)
    if isinstance(node, ast.IfExp):
        return roots(node.body) | roots(node.orelse)
    if isinstance(node, ast.BoolOp):
        return set().union(*[roots(one) for one in node.values])
    if isinstance(node, ast.Call) and getattr(node.func, "id", "") in PASSING:
        return set().union(*[roots(one) for one in node.args])
    if isinstance(node, ast.Call) and getattr(node.func, "attr", "") in VIEWS:
        return roots(node.func.value)
    return set()


def targets(node):
    """The names that a target assigns."""
    return {one.id for one in ast.walk(node) if isinstance(one, ast.Name) and isinstance(one.ctx, ast.Store)}


def changed_names(body, methods=(), functions=()):
    """The names from which that is reached which these nodes change.

    methods has the names of own methods that change their object, functions
    pairs of the name of an own function and the number of an argument that it changes.
    """
    found = set()
    for node in [inner for one in body for inner in ast.walk(one)]:
        if isinstance(node, (ast.Subscript, ast.Attribute)) and not isinstance(node.ctx, ast.Load):
            found |= roots(node.value)
        if isinstance(node, ast.Call) and getattr(node.func, "attr", "") in CHANGING | set(methods):
            found |= roots(node.func.value)
        if isinstance(node, ast.AugAssign):
            found |= roots(node.target)
        if isinstance(node, ast.Call):
            for at, one in enumerate(node.args):
                if (getattr(node.func, "id", ""), at) in functions:
                    found |= roots(one)
    return found


def with_other_names(function, names):
    """The names, those that they are reached from, and all that the function gives to something reached from these."""
    pairs = []
    for node in ast.walk(function):
        if isinstance(node, ast.Assign):
            pairs += [(targets(target), roots(node.value)) for target in node.targets]
        if isinstance(node, ast.For):
            pairs.append((targets(node.target), roots(node.iter)))
    names = set(names)
    for back in (True, False):
        for _ in pairs:
            for told, reached in pairs:
                if (told if back else reached) & names:
                    names |= reached if back else told
    return names


def changing(trees):
    """The own methods that change their object, and the own functions that change an argument."""
    methods, functions = set(), set()
    while True:
        before = len(methods) + len(functions)
        for tree in trees:
            for owner in [tree] + [node for node in ast.walk(tree) if isinstance(node, ast.ClassDef)]:
                for node in [node for node in owner.body if isinstance(node, ast.FunctionDef)]:
                    changed = changed_names(node.body, methods, functions)
                    for at, one in enumerate(node.args.args):
                        if not with_other_names(node, {one.arg}) & changed:
                            continue
                        if isinstance(owner, ast.Module):
                            functions.add((node.name, at))
                        elif at == 0 and node.name != "__init__":
                            methods.add(node.name)
        if len(methods) + len(functions) == before:
            return methods, functions


def loops_that_change_what_they_walk(tree, methods, functions):
    """The lines of the loops and comprehensions that change what they go over, or what is reached from the same name."""
    found = []
    for function in [node for node in ast.walk(tree) if isinstance(node, ast.FunctionDef)]:
        for node in ast.walk(function):
            walked, body = set(), []
            if isinstance(node, ast.For):
                walked, body = roots(node.iter), node.body
            if isinstance(node, (ast.ListComp, ast.DictComp, ast.GeneratorExp, ast.SetComp)):
                walked = set().union(*[roots(one.iter) for one in node.generators])
                body = [node]
            if walked and with_other_names(function, walked) & changed_names(body, methods, functions):
                found.append(node.lineno)
    return found


class Loops(unittest.TestCase):
    def test_what_a_loop_walks_is_not_changed_in_it(self):
        methods, functions = changing(list(TREES.values()))
        for path, tree in TREES.items():
            self.assertEqual(loops_that_change_what_they_walk(tree, methods, functions), [], path)

    SHAPES = (
        "for x in xs:\n  xs.append(x)",
        "for k, x in enumerate(xs):\n  xs[k] = x",
        "for x in xs:\n  del xs[0]",
        "ys = xs\nfor x in xs:\n  ys.append(x)",
        "for k in ks:\n  ys = []\n  for x in xs:\n    ys.append(x)\n  xs = ys",
        "for k, x in zs.items():\n  zs[k] = x",
        "for x in xs if k else ys:\n  ys.pop()",
        "for x in xs.form.lines:\n  xs.words.append(x)",
        "for x in xs.rows:\n  xs.left -= 1",
        "for x in xs.rows[0]:\n  xs.table[x] = 1",
        "for k, x in zip(ks, xs.rows):\n  xs.a.b = k",
        "rows = xs.rows\nfor x in rows:\n  xs.words.append(x)",
        "rows = xs.rows\nfor x in xs.lines:\n  rows.append(x)",
        "for row in xs.rows:\n  for x in row.cells:\n    xs.words.append(x)",
        "for x in xs.rows:\n  xs.taken(x)",
        "for x in xs.rows:\n  given(ks, xs)",
        "ys = [xs.words.append(x) for x in xs.rows]",
        "ys = [xs.taken(x) for x in xs.rows]",
        "ys = {k: given(k, xs.words) for k in xs.rows}",
    )

    def lines_of(self, shape):
        text = "def f(xs, ks, zs):\n  " + shape.replace("\n", "\n  ")
        text += "\ndef given(one, other):\n  other.append(one)\n"
        text += "class Xs:\n  def taken(self, x):\n    self.kept(x)\n  def kept(self, x):\n    self.words[x] = 1\n"
        tree = ast.parse(text)
        return loops_that_change_what_they_walk(tree, *changing([tree]))

    def test_the_check_sees_such_loops(self):
        for shape in self.SHAPES:
            self.assertNotEqual(self.lines_of(shape), [], shape)

    def test_the_check_lets_other_loops_by(self):
        for shape in (
            "ys = list(xs)\nfor x in list(xs):\n  xs.append(x)\nfor y in ys:\n  xs.append(y)",
            "for x in list(xs.form.lines):\n  xs.words.append(x)",
            "for x in xs.rows:\n  ks.append(x)",
            "for x in xs.rows:\n  given(x, ks)",
            "for x in sorted(xs.rows):\n  xs.taken(x)",
            "for x in [y for y in xs.rows]:\n  xs.words.append(x)",
            "ys = [xs.told(x) for x in xs.rows]",
        ):
            self.assertEqual(self.lines_of(shape), [], shape)


class Classes(unittest.TestCase):
    def test_methods_and_decorators(self):
        for where, node in nodes(ast.FunctionDef):
            if node.name.startswith("__"):
                self.assertIn(node.name, DUNDERS, where)
            for one in node.decorator_list:
                self.assertIn(one.id, ("staticmethod", "classmethod", "property"), where)
            self.assertIsNone(node.returns, where)
        for where, node in nodes(ast.ClassDef):
            self.assertEqual(node.decorator_list, [], where)

    def test_len_and_iter(self):
        for where, node in nodes(ast.FunctionDef):
            if node.name in ("__len__", "__iter__"):
                self.assertEqual(len(node.body), 1, where)
                self.assertIsInstance(node.body[0], ast.Return, where)
                self.assertEqual(node.body[0].value.func.id, node.name.strip("_"), where)

    def test_raise_creates_its_error(self):
        for where, node in nodes(ast.Raise):
            self.assertIsInstance(node.exc, ast.Call, where)
            self.assertIsInstance(node.exc.func, ast.Name, where)

    def test_private_attributes_stay_in_their_class(self):
        for where, node in nodes(ast.Attribute):
            if node.attr.startswith("_") and not node.attr.startswith("__"):
                self.assertIn(getattr(node.value, "id", None), ("self", "other"), where)


if __name__ == "__main__":
    unittest.main()
