"""The subset of Python that the package keeps to, as far as it can be seen in the code at once."""

import ast
import pathlib
import re
import unittest

PACKAGE = pathlib.Path(__file__).resolve().parent.parent / "hookrow"
FILES = sorted(path for path in PACKAGE.rglob("*") if "__pycache__" not in path.parts)
TREES = {path: ast.parse(path.read_text()) for path in FILES if path.suffix == ".py"}

BUILTINS = set(
    "len range enumerate zip min max sum abs sorted reversed int str bool list tuple dict set isinstance ord repr any"
    " all divmod pow getattr hasattr setattr iter next map Exception ValueError TypeError KeyError IndexError"
    " LookupError ZeroDivisionError ArithmeticError OverflowError RuntimeError NotImplementedError AttributeError"
    " StopIteration NotImplemented".split()
)
METHODS = set(
    "append clear copy count endswith extend find get index insert isalnum isalpha isdigit islower isspace isupper"
    " items join keys ljust lower lstrip partition pop remove replace reverse rfind rjust rpartition rsplit rstrip"
    " setdefault split splitlines startswith strip update upper values zfill bit_length title capitalize swapcase"
    " casefold center expandtabs removeprefix removesuffix rindex isascii isdecimal isnumeric istitle isidentifier"
    " isprintable add discard".split()
)
BARRED_ATTRIBUTES = set(
    "items keys values pop update append clear extend insert remove reverse setdefault sort args encode decode hex"
    " fromhex format format_map mro".split()
)
BARRED_NAMES = set(
    "register mro elements open input law version_info with_traceback add_note attrgetter breakpoint builtins compile"
    " copyright credits delattr dir eval exec exit gc globals help id importlib license locals methodcaller os quit"
    " super type vars sys hash filter format round".split()
)
CHANGING = set("append clear extend insert pop remove reverse setdefault update sort add discard".split())
LIBRARY = {
    "heapq": "heappush heappop heapify heapreplace heappushpop", "math": "gcd lcm isqrt comb perm factorial",
    "itertools": "product combinations permutations chain accumulate pairwise islice zip_longest",
    "collections": "defaultdict",
}
DOUBLE = [f"__{name}__" for name in (
    "init eq repr str len enter exit call iter lt le gt ge ne add sub mul floordiv mod pow and or xor lshift rshift"
    " iadd isub neg pos invert abs bool contains getitem setitem".split()
)]
STATEMENTS = (
    ast.FunctionDef, ast.ClassDef, ast.Return, ast.Delete, ast.Assign, ast.AugAssign, ast.AnnAssign, ast.For,
    ast.While, ast.If, ast.With, ast.Match, ast.Raise, ast.Try, ast.Assert, ast.ImportFrom, ast.Nonlocal, ast.Expr,
    ast.Pass, ast.Break, ast.Continue,
)


def walk(kinds):
    """All nodes of some kinds, with where they stand."""
    for path, tree in TREES.items():
        for node in ast.walk(tree):
            if isinstance(node, kinds):
                yield f"{path.name}:{getattr(node, 'lineno', 0)}", node


def defined(kinds):
    return {node.name for _, node in walk(kinds)}


class Language(unittest.TestCase):
    def test_files(self):
        self.assertLessEqual(len(FILES), 100)
        for path in FILES:
            self.assertTrue(re.fullmatch("[a-z0-9_]+[.]py", path.name), path)
            self.assertEqual(path.parent, PACKAGE)

    def test_sizes_and_characters(self):
        for path in TREES:
            rows = path.read_bytes().decode("ascii").split("\n")
            self.assertLessEqual(len(rows) - 1, 399, path)
            self.assertEqual(rows[-1], "", path)
            for at, row in enumerate(rows):
                self.assertLessEqual(len(row), 120, f"{path}:{at + 1}")
                self.assertTrue(all(" " <= sign <= "~" for sign in row), f"{path}:{at + 1}")
        for place, node in walk(ast.FunctionDef):
            self.assertLessEqual(node.end_lineno - node.lineno + 1, 40, place)

    def test_imports(self):
        edges = {}
        for path, tree in TREES.items():
            names = []
            for node in tree.body:
                if isinstance(node, ast.ImportFrom):
                    self.assertEqual(node.level, 0)
                    first, _, rest = node.module.partition(".")
                    for alias in node.names:
                        self.assertIsNone(alias.asname)
                        names.append(alias.name)
                        if first == "hookrow":
                            there = TREES[PACKAGE / f"{rest}.py"]
                            self.assertIn(alias.name, bound_at_module_level(there), path)
                            edges.setdefault(path.stem, set()).add(rest)
                        else:
                            self.assertIn(alias.name, LIBRARY[node.module].split(), path)
            names += bound_at_module_level(tree)
            self.assertEqual(len(names), len(set(names)), path)
        for _ in TREES:
            edges = {name: others.union(*[edges.get(other, set()) for other in others]) for name, others in edges.items()}
        for name, others in edges.items():
            self.assertNotIn(name, others)

    def test_statements(self):
        for place, node in walk(ast.stmt):
            self.assertIsInstance(node, STATEMENTS, place)
        for path, tree in TREES.items():
            for node in tree.body:
                self.assertIsInstance(node, (ast.ImportFrom, ast.FunctionDef, ast.ClassDef, ast.Assign, ast.Expr), path)

    def test_expressions(self):
        for place, node in walk((ast.GeneratorExp, ast.Await, ast.Div, ast.MatMult)):
            self.fail(place)
        for place, node in walk(ast.Constant):
            self.assertNotIsInstance(node.value, (float, complex), place)
            if isinstance(node.value, str):
                self.assertNotIn("%", node.value, place)
                self.assertIsNone(re.match("__.*__$", node.value), place)

    def test_decorators(self):
        for place, node in walk(ast.ClassDef):
            self.assertEqual(node.decorator_list, [], place)
        for place, node in walk(ast.FunctionDef):
            for decorator in node.decorator_list:
                shown = ast.unparse(decorator)
                self.assertTrue(shown in ("property", "staticmethod", "classmethod") or shown.endswith(".setter"), place)

    def test_names(self):
        own = defined((ast.FunctionDef, ast.ClassDef))
        stored = {node.id for _, node in walk(ast.Name) if not isinstance(node.ctx, ast.Load)}
        stored |= {node.arg for _, node in walk(ast.arg)}
        for name in own | stored:
            self.assertNotIn(name, BUILTINS)
            if name not in {method.name for method in methods()}:
                self.assertNotIn(name, BARRED_NAMES)
            self.assertTrue(re.fullmatch("_?[A-Za-z][A-Za-z0-9_]*|__[a-z]+__|_", name), name)
        imported = {alias.name for _, node in walk(ast.ImportFrom) for alias in node.names}
        for place, node in walk(ast.Name):
            known = own | stored | imported | BUILTINS | {"property", "staticmethod", "classmethod", "super"}
            self.assertIn(node.id, known, place)

    def test_no_local_name_is_a_class_or_an_import_of_its_file(self):
        for path, tree in TREES.items():
            taken = {node.name for node in tree.body if isinstance(node, ast.ClassDef)}
            taken |= {alias.name for node in tree.body if isinstance(node, ast.ImportFrom) for alias in node.names}
            for node in ast.walk(tree):
                if isinstance(node, ast.Name) and not isinstance(node.ctx, ast.Load):
                    self.assertNotIn(node.id, taken, f"{path}:{node.lineno}")
                if isinstance(node, ast.arg):
                    self.assertNotIn(node.arg, taken, f"{path}:{node.lineno}")

    def test_methods_and_attributes(self):
        own = {method.name for method in methods()}
        for place, node in walk(ast.Call):
            if isinstance(node.func, ast.Attribute):
                self.assertTrue(node.func.attr in own | METHODS or node.func.attr == "__init__", place)
        assigned = {node.attr for _, node in walk(ast.Attribute) if isinstance(node.ctx, ast.Store)}
        self.assertEqual(assigned & BARRED_ATTRIBUTES, set())
        called = {id(node.func) for _, node in walk(ast.Call)}
        properties = {method.name for method in methods() if method.decorator_list}
        for place, node in walk(ast.Attribute):
            if id(node) not in called:
                self.assertIn(node.attr, assigned | properties, place)
        for place, node in walk(ast.ClassDef):
            here = {method.name for method in node.body if isinstance(method, ast.FunctionDef)}
            self.assertEqual(here & {each.attr for each in ast.walk(node)
                                     if isinstance(each, ast.Attribute) and isinstance(each.ctx, ast.Store)}, set(), place)

    def test_sets(self):
        """Sets are only written where they are tested with `in`, sorted or measured."""
        for path, tree in TREES.items():
            fine = set()
            for node in ast.walk(tree):
                if isinstance(node, ast.Call) and isinstance(node.func, ast.Name) and node.func.id in ("sorted", "len"):
                    fine.update(id(inside) for inside in ast.walk(node))
                if isinstance(node, ast.Compare):
                    fine.update(id(inside) for inside in ast.walk(node))
            for node in ast.walk(tree):
                if isinstance(node, (ast.Set, ast.SetComp)) or isinstance(node, ast.Name) and node.id == "set":
                    self.assertIn(id(node), fine, f"{path}:{node.lineno}")

    def test_is(self):
        for place, node in walk(ast.Compare):
            for operator, right in zip(node.ops, node.comparators):
                if isinstance(operator, (ast.Is, ast.IsNot)):
                    self.assertTrue(isinstance(right, ast.Constant) and right.value in (None, True, False), place)

    def test_double_underscore_methods(self):
        for place, node in walk(ast.FunctionDef):
            if node.name.startswith("__"):
                self.assertIn(node.name, DOUBLE, place)
                self.assertFalse([each for each in ast.walk(node) if isinstance(each, (ast.Yield, ast.YieldFrom))], place)
        for place, method in [(method.lineno, method) for method in methods()]:
            told = [ast.unparse(each.value) for each in ast.walk(method) if isinstance(each, ast.Return) and each.value]
            if method.name == "__init__":
                self.assertEqual(told, [], place)
            if method.name == "__len__":
                self.assertTrue(all(each.startswith("len(") for each in told), place)
            if method.name in ("__str__", "__repr__"):
                self.assertTrue(all(re.match("f?['\"]|str[(]|repr[(]", each) for each in told), place)

    def test_operators_and_properties_assign_no_attributes(self):
        changing = [f"__{name}__" for name in "init enter exit call iadd isub setitem".split()]
        for place, method in [(method.lineno, method) for method in methods()]:
            if method.decorator_list or method.name.startswith("__") and method.name not in changing:
                for node in ast.walk(method):
                    self.assertFalse(isinstance(node, ast.Attribute) and isinstance(node.ctx, ast.Store), place)
                    self.assertNotIsInstance(node, ast.AugAssign, place)

    def test_generators(self):
        """The call of a generator is iterated at once, and nothing else has its name."""
        made = [node.name for _, node in walk(ast.FunctionDef)]
        names = {
            node.name for _, node in walk(ast.FunctionDef)
            if any(isinstance(each, (ast.Yield, ast.YieldFrom)) for each in ast.walk(node))
        }
        for name in names:
            self.assertEqual(made.count(name), 1)
            self.assertNotIn(name, METHODS)
        iterated = {id(node.iter) for _, node in walk((ast.For, ast.comprehension))}
        for place, node in walk(ast.Call):
            if getattr(node.func, "id", None) in ("list", "tuple", "dict", "sorted", "enumerate") and node.args:
                iterated.add(id(node.args[0]))
        for place, node in walk(ast.Call):
            called = node.func.attr if isinstance(node.func, ast.Attribute) else getattr(node.func, "id", None)
            if called in names:
                self.assertIn(id(node), iterated, place)

    def test_no_yield_in_a_try_or_a_with(self):
        for place, node in walk((ast.Try, ast.With)):
            self.assertFalse([each for each in ast.walk(node) if isinstance(each, (ast.Yield, ast.YieldFrom))], place)

    def test_nothing_is_changed_by_a_sign(self):
        """Beside a class with `+=`, nothing else is changed so."""
        for place, node in walk(ast.AugAssign):
            self.fail(place)

    def test_no_name_is_a_method_and_an_attribute(self):
        assigned = {node.attr for _, node in walk(ast.Attribute) if isinstance(node.ctx, ast.Store)}
        self.assertEqual(assigned & {method.name for method in methods()}, set())
        generators = {
            node.name for _, node in walk(ast.FunctionDef)
            if any(isinstance(each, (ast.Yield, ast.YieldFrom)) for each in ast.walk(node))
        }
        called = {node.func.id for _, node in walk(ast.Call) if isinstance(node.func, ast.Name)}
        stored = {node.id for _, node in walk(ast.Name) if not isinstance(node.ctx, ast.Load)}
        self.assertEqual(stored & generators & called, set())

    def test_methods_are_not_read_off_classes(self):
        classes = defined(ast.ClassDef)
        for place, node in walk(ast.Attribute):
            self.assertFalse(isinstance(node.value, ast.Name) and node.value.id in classes, place)

    def test_super(self):
        """`super()` calls a plain method, directly in a method."""
        calls = [node for _, node in walk(ast.Call) if getattr(node.func, "id", None) == "super"]
        fine = {
            id(node.func.value) for _, node in walk(ast.Call)
            if isinstance(node.func, ast.Attribute) and not node.func.attr.startswith("__")
        }
        for node in calls:
            self.assertIn(id(node), fine)
            self.assertEqual(node.args, [])

    def test_exit(self):
        """The rows of `__exit__` only put back what was there, and ask nothing about an error."""
        for method in methods():
            if method.name == "__exit__":
                self.assertEqual([each.arg for each in method.args.args], ["self", "kind", "value", "trace"])
                for row in method.body:
                    self.assertRegex(ast.unparse(row), "^(host = self[.][a-z_]+|host[.][a-z_]+ = self[.][a-z_]+)$")

    def test_classes_with_an_index_are_iterated_over(self):
        for place, node in walk(ast.ClassDef):
            here = {method.name: method for method in node.body if isinstance(method, ast.FunctionDef)}
            if "__getitem__" in here:
                self.assertRegex(ast.unparse(here["__iter__"].body[-1]), "^return iter[(]self[.][a-z_]+[)]$")
                self.assertEqual(len(here["__iter__"].body), 1)

    def test_stars_in_calls(self):
        """Beside `**` stands no keyword, and behind a star only a name or an attribute."""
        for place, node in walk(ast.Call):
            if any(keyword.arg is None for keyword in node.keywords):
                self.assertEqual(len(node.keywords), 1, place)
            for each in node.args:
                if isinstance(each, ast.Starred):
                    self.assertIsInstance(each.value, (ast.Name, ast.Attribute), place)

    def test_errors_that_are_caught(self):
        own = {node.name for _, node in walk(ast.ClassDef)}
        for place, node in walk(ast.ExceptHandler):
            self.assertIn(ast.unparse(node.type), own, place)

    def test_loops_do_not_assign_what_they_go_over(self):
        for place, node in walk(ast.For):
            if isinstance(node.iter, ast.Name):
                stored = {
                    each.id for row in node.body for each in ast.walk(row)
                    if isinstance(each, ast.Name) and not isinstance(each.ctx, ast.Load)
                }
                self.assertNotIn(node.iter.id, stored, place)

    def test_loops_do_not_change_what_they_go_over(self):
        """Nor what has the same name, attribute or item in another row of the function, by any row of assignments."""
        for place, function in walk(ast.FunctionDef):
            linked = links(function)
            for loop in ast.walk(function):
                if isinstance(loop, ast.For):
                    walked, inside = [loop.iter], loop.body
                elif isinstance(loop, (ast.ListComp, ast.SetComp, ast.DictComp, ast.GeneratorExp)):
                    walked, inside = [each.iter for each in loop.generators], [loop]
                else:
                    continue
                gone_over = reached([name for each in walked for name in named(each)], linked)
                for row in inside:
                    changed = [name for each in changed_in(row) for name in named(each)]
                    self.assertEqual(reached(changed, linked) & gone_over, set(), f"{place}, row {row.lineno}")

    def test_what_the_test_of_loops_sees(self):
        rows = {
            "for x in xs:\n  xs.append(x)": True,
            "for x in list(xs):\n  xs.append(x)": False,
            "for at, x in enumerate(xs):\n  xs[at] = 1": True,
            "for x in xs.items():\n  del xs[x]": True,
            "for x in xs:\n  for y in x:\n    ys.append(y)\nxs = ys": True,
            "zs = ys\nfor x in xs if xs else ys:\n  zs.pop()": True,
            "for x in self.xs:\n  other.xs.append(x)": True,
            "for x in xs[0]:\n  xs[1].append(x)": True,
            "for x in xs:\n  ys.append(x)\nxs = list(ys)": False,
            "for x in xs:\n  ys.append(x)\nxs = ys + zs": False,
            "a, b = xs, ys\nfor x in a:\n  b.append(x)": False,
            "a, b = xs, ys\nfor x in a:\n  xs.append(x)": True,
        }
        for text, expected in rows.items():
            tree = ast.parse(text)
            linked = links(tree)
            seen = [
                reached(named(loop.iter), linked) & reached([name for each in changed_in(row) for name in named(each)], linked)
                for loop in ast.walk(tree) if isinstance(loop, ast.For) for row in loop.body
            ]
            self.assertIs(any(seen), expected, text)

    def test_reversed(self):
        """Beside a class with an index, `reversed` takes what is plainly a list, tuple or range."""
        for place, node in walk(ast.Call):
            if isinstance(node.func, ast.Name) and node.func.id == "reversed":
                self.assertRegex(ast.unparse(node.args[0]), "^(list|tuple|sorted|range)[(]", place)

    def test_nothing_reads_the_world(self):
        for place, node in walk(ast.Name):
            self.assertNotIn(node.id, ("print", "open", "input"), place)


def methods():
    return [each for _, node in walk(ast.ClassDef) for each in node.body if isinstance(each, ast.FunctionDef)]


def named(node):
    """The names and attributes that an expression may stand for, where it makes nothing new."""
    if isinstance(node, ast.Name):
        return [node.id]
    if isinstance(node, ast.Attribute):
        return [f".{node.attr}"]
    if isinstance(node, ast.Subscript):
        return [] if isinstance(node.slice, ast.Slice) else named(node.value)
    if isinstance(node, ast.IfExp):
        return named(node.body) + named(node.orelse)
    if isinstance(node, ast.BoolOp):
        return [name for each in node.values for name in named(each)]
    if isinstance(node, ast.Call) and getattr(node.func, "attr", None) in ("items", "keys", "values"):
        return named(node.func.value)
    if isinstance(node, ast.Call) and getattr(node.func, "id", None) in ("enumerate", "zip", "reversed", "iter"):
        return [name for each in node.args for name in named(each)]
    return []


def links(tree):
    """The pairs of names of which one is assigned to the other."""
    pairs = []
    for node in ast.walk(tree):
        if isinstance(node, ast.Assign):
            for target in node.targets:
                if isinstance(target, ast.Tuple) and isinstance(node.value, ast.Tuple):
                    pairs += zip(target.elts, node.value.elts)
                else:
                    pairs.append((target, node.value))
    return [(one, other) for target, value in pairs for one in named(target) for other in named(value)]


def reached(names, linked):
    """The names, and all that pairs link with them."""
    found = set(names)
    for _ in linked:
        for pair in linked:
            if found & set(pair):
                found.update(pair)
    return found


def changed_in(tree):
    """What is changed in place somewhere in a row."""
    for node in ast.walk(tree):
        if isinstance(node, ast.Call) and getattr(node.func, "attr", None) in CHANGING:
            yield node.func.value
        if isinstance(node, ast.Subscript) and not isinstance(node.ctx, ast.Load):
            yield node.value


def bound_at_module_level(tree):
    names = [node.name for node in tree.body if isinstance(node, (ast.FunctionDef, ast.ClassDef))]
    return names + [target.id for node in tree.body if isinstance(node, ast.Assign) for target in node.targets]


if __name__ == "__main__":
    unittest.main()
