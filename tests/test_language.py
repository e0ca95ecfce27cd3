"""Those rules of the language that can be seen in the code without running it."""

import ast
import builtins
import functools
import pathlib
import re
import unittest

PACKAGE = pathlib.Path(__file__).resolve().parent.parent / "twozeros"

LIBRARY = {
    "heapq": {"heappush", "heappop", "heapify", "heapreplace", "heappushpop"},
    "math": {"gcd", "lcm", "isqrt", "comb", "perm", "factorial"},
    "itertools": {
        "product", "combinations", "permutations", "chain", "accumulate", "pairwise", "islice", "zip_longest",
    },
    "collections": {"defaultdict"},
    "__future__": {"annotations"},
}
BUILTINS = set(
    "len range enumerate zip min max sum abs sorted reversed int str bool bytes list tuple dict set frozenset "
    "isinstance ord repr any all divmod pow getattr hasattr setattr iter next map property staticmethod classmethod "
    "super object Exception ValueError TypeError KeyError IndexError LookupError ZeroDivisionError ArithmeticError "
    "OverflowError RuntimeError NotImplementedError AttributeError StopIteration NotImplemented".split()
)
CAUGHT = set("KeyError ZeroDivisionError StopIteration ValueError LookupError IndexError".split())
BUILTIN_METHODS = set(
    "append clear copy count endswith extend find get index insert isalnum isalpha isdigit islower isspace isupper "
    "items join keys ljust lower lstrip partition pop remove replace reverse rfind rjust rpartition rsplit rstrip "
    "setdefault split splitlines startswith strip update upper values zfill bit_length title capitalize swapcase "
    "casefold center expandtabs removeprefix removesuffix rindex isascii isdecimal isnumeric istitle isidentifier "
    "isprintable translate format sort add discard from_iterable".split()
)
DUNDERS = {
    "__" + name + "__"
    for name in (
        "init eq repr str len enter exit call iter lt le gt ge ne add sub mul floordiv mod pow and or xor lshift "
        "rshift radd rsub rmul rfloordiv rmod rand ror rxor rlshift rrshift iadd isub imul ifloordiv imod ipow iand "
        "ior ixor ilshift irshift neg pos invert abs bool contains getitem setitem"
    ).split()
}
STATEMENTS = (
    ast.Assign, ast.AnnAssign, ast.AugAssign, ast.If, ast.While, ast.For, ast.Return, ast.Break, ast.Continue,
    ast.Pass, ast.Raise, ast.Assert, ast.Delete, ast.Nonlocal, ast.Match, ast.With, ast.Try, ast.Expr,
    ast.FunctionDef, ast.ClassDef, ast.ImportFrom,
)
AT_TOP = (ast.ImportFrom, ast.FunctionDef, ast.ClassDef, ast.Assign, ast.AnnAssign)
NEVER_NAMES = set(
    "register mro elements open input law version_info with_traceback add_note attrgetter breakpoint builtins compile "
    "copyright credits delattr dir eval exec exit gc globals help id importlib license locals methodcaller os quit "
    "type vars sys".split()
)
NEVER_ATTRIBUTES = set(
    "items keys values pop update append clear extend insert remove reverse setdefault sort args encode decode hex "
    "fromhex format format_map mro as_integer_ratio bit_count conjugate from_bytes is_integer to_bytes".split()
)


def files():
    return sorted(path for path in PACKAGE.rglob("*") if "__pycache__" not in path.parts)


def sources():
    return [(path.name, path.read_text(encoding="utf-8")) for path in files() if path.suffix == ".py"]


@functools.cache
def trees():
    return [(name, ast.parse(text)) for name, text in sources()]


def nodes(*kinds):
    """All nodes of these kinds, with the name and line of their place."""
    for name, tree in trees():
        for node in ast.walk(tree):
            if isinstance(node, kinds):
                yield f"{name}:{getattr(node, 'lineno', 0)}", node


def bound_names():
    """All names that code of the package gives a meaning to, methods left out."""
    for place, node in nodes(ast.Name, ast.arg, ast.ExceptHandler, ast.alias):
        if isinstance(node, ast.Name) and isinstance(node.ctx, ast.Store):
            yield place, node.id
        elif isinstance(node, ast.arg):
            yield place, node.arg
        elif isinstance(node, ast.ExceptHandler) and node.name:
            yield place, node.name
        elif isinstance(node, ast.alias):
            yield place, node.name
    for name, tree in trees():
        methods = {id(method) for kind in ast.walk(tree) if isinstance(kind, ast.ClassDef) for method in kind.body}
        for node in ast.walk(tree):
            if isinstance(node, (ast.FunctionDef, ast.ClassDef)) and id(node) not in methods:
                yield f"{name}:{node.lineno}", node.name


def methods():
    for place, kind in nodes(ast.ClassDef):
        for node in kind.body:
            if isinstance(node, ast.FunctionDef):
                yield place, kind, node


COMPREHENSIONS = (ast.ListComp, ast.SetComp, ast.DictComp, ast.GeneratorExp)


def own_names(function):
    """The names that a function itself assigns, those of comprehensions and nested functions left out."""
    found = {arg.arg for arg in function.args.args}
    waiting = list(ast.iter_child_nodes(function))
    while waiting:
        node = waiting.pop()
        if isinstance(node, ast.Name) and isinstance(node.ctx, ast.Store):
            found.add(node.id)
        if not isinstance(node, (*COMPREHENSIONS, ast.FunctionDef, ast.Lambda)):
            waiting += ast.iter_child_nodes(node)
    return found


def inner_clashes(node, outer, depth):
    """Comprehensions inside others, or in nested functions, whose variables are names from further out."""
    for part in ast.iter_child_nodes(node):
        if isinstance(part, COMPREHENSIONS):
            own = {name.id for made in part.generators for name in ast.walk(made.target) if isinstance(name, ast.Name)}
            if depth > 0 and own & outer - {"_"}:
                yield part.lineno, own & outer
            yield from inner_clashes(part, outer | own, depth + 1)
        elif isinstance(part, ast.FunctionDef):
            yield from inner_clashes(part, outer | own_names(part), depth + 1)
        else:
            yield from inner_clashes(part, outer, depth)


class Files(unittest.TestCase):
    def test_names_of_files(self):
        for path in files():
            self.assertTrue(path.is_dir() or re.fullmatch(r"[a-z_][a-z0-9_]*\.py", path.name), path)

    def test_sizes(self):
        for name, text in sources():
            lines = text.split("\n")
            self.assertLess(len(lines) - 1, 400, name)
            for at, line in enumerate(lines):
                self.assertLessEqual(len(line), 120, f"{name}:{at + 1}")
        for place, node in nodes(ast.FunctionDef):
            self.assertLessEqual(node.end_lineno - node.lineno + 1, 40, place)

    def test_characters(self):
        for name, text in sources():
            self.assertRegex(text, r"\A[ -~\n]*\Z", name)

    def test_imports(self):
        seen = {}
        for name, tree in trees():
            seen[name] = set()
            heads = [at for at, node in enumerate(tree.body) if isinstance(node, ast.ImportFrom)]
            before = [node for node in tree.body[:max(heads, default=0)] if not isinstance(node, ast.ImportFrom)]
            self.assertLessEqual(len(before), 1, name)
            for node in ast.walk(tree):
                self.assertNotIsInstance(node, ast.Import, name)
                if isinstance(node, ast.ImportFrom):
                    self.check_import(name, node)
                    seen[name].add(node.module.rpartition(".")[2] + ".py")
        for name in seen:
            self.assertNotIn(name, self.reached(seen, name), "imports go round")

    def check_import(self, name, node):
        self.assertEqual(node.level, 0, name)
        for alias in node.names:
            self.assertIsNone(alias.asname, name)
            if node.module in LIBRARY:
                self.assertIn(alias.name, LIBRARY[node.module])
                continue
            self.assertRegex(node.module, r"\Atwozeros\.[a-z_]+\Z")
            path = PACKAGE / (node.module.rpartition(".")[2] + ".py")
            defined = [
                part.name if hasattr(part, "name") else part.targets[0].id
                for part in ast.parse(path.read_text()).body
                if isinstance(part, (ast.FunctionDef, ast.ClassDef, ast.Assign))
            ]
            self.assertIn(alias.name, defined, f"{name} imports it from a file that does not define it")

    def reached(self, seen, name):
        found, waiting = set(), list(seen[name])
        while waiting:
            other = waiting.pop()
            if other in seen and other not in found:
                found.add(other)
                waiting += seen[other]
        return found


class Code(unittest.TestCase):
    def test_module_level(self):
        for name, tree in trees():
            for at, node in enumerate(tree.body):
                docstring = at == 0 and isinstance(node, ast.Expr) and isinstance(node.value, ast.Constant)
                self.assertTrue(docstring or isinstance(node, AT_TOP), f"{name}:{node.lineno}")

    def test_statements(self):
        for place, node in nodes(ast.stmt):
            self.assertIsInstance(node, STATEMENTS, place)
            if isinstance(node, ast.Expr):
                self.assertIsInstance(node.value, (ast.Constant, ast.Call, ast.Yield, ast.YieldFrom), place)

    def test_expressions(self):
        for place, node in nodes(ast.BinOp, ast.AugAssign, ast.Constant, ast.Await):
            self.assertNotIsInstance(node, ast.Await, place)
            if isinstance(node, ast.Constant):
                self.assertIsInstance(node.value, (int, str, bytes, bool, type(None)), place)
                continue
            self.assertNotIsInstance(node.op, (ast.Div, ast.MatMult), place)
            if isinstance(node.op, ast.Pow):
                exponent = node.right if isinstance(node, ast.BinOp) else node.value
                self.assertIsInstance(exponent, (ast.Constant, ast.Name, ast.BinOp), place)

    def test_strings(self):
        for place, node in nodes(ast.Constant):
            if isinstance(node.value, str):
                self.assertNotIn("%", node.value, place)
                self.assertNotRegex(node.value, r"\A__.*__\Z", place)

    def test_decorators(self):
        allowed = {id(node) for _, _, node in methods()}
        for place, node in nodes(ast.FunctionDef, ast.ClassDef):
            told = [ast.unparse(decorator) for decorator in node.decorator_list]
            if id(node) in allowed:
                told = [name for name in told if name not in ("property", "staticmethod", "classmethod")]
            wrong = [name for name in told if not name.endswith(".setter")]
            self.assertEqual(wrong, [], place)

    def test_double_underscore_methods(self):
        for place, kind, node in methods():
            if node.name.startswith("__"):
                self.assertIn(node.name, DUNDERS, place)

    def test_lengths_and_texts(self):
        for place, kind, node in methods():
            if node.name in ("__len__", "__str__", "__repr__"):
                self.assertIsInstance(node.body[-1], ast.Return, place)
            if node.name == "__len__":
                self.assertRegex(ast.unparse(node.body[-1]), r"\Areturn (len\(.*\)|\d+)\Z", place)

    def test_exits(self):
        allowed = (ast.Pass, ast.Return, ast.Assign, ast.AugAssign, ast.Expr, ast.If)
        for place, kind, node in methods():
            if node.name == "__exit__":
                for part in node.body:
                    self.assertIsInstance(part, allowed, place)

    def test_builtins_that_are_used(self):
        bound = {name for _, name in bound_names()}
        for place, node in nodes(ast.Name):
            if isinstance(node.ctx, ast.Load) and node.id not in bound:
                self.assertIn(node.id, BUILTINS, place)

    def test_names(self):
        for place, name in bound_names():
            self.assertFalse(name != "_" and name in dir(builtins), f"{place} {name}")
            self.assertNotIn(name, NEVER_NAMES, place)
            self.assertRegex(name, r"\A_?[A-Za-z][A-Za-z0-9_]*\Z|\A_\Z", place)

    def test_methods_that_are_called(self):
        own = {node.name for _, _, node in methods()}
        for place, node in nodes(ast.Call):
            if isinstance(node.func, ast.Attribute):
                self.assertIn(node.func.attr, own | BUILTIN_METHODS | DUNDERS, place)

    def test_attributes(self):
        own = {node.name for _, _, node in methods()}
        assigned = {node.attr for _, node in nodes(ast.Attribute) if isinstance(node.ctx, ast.Store)}
        values = {
            part.targets[0].id for _, kind in nodes(ast.ClassDef) for part in kind.body if isinstance(part, ast.Assign)
        }
        self.assertEqual(assigned & NEVER_ATTRIBUTES, set())
        known = own | assigned | values | BUILTIN_METHODS | DUNDERS | {"setter", "__class__", "__name__"}
        for place, node in nodes(ast.Attribute):
            self.assertIn(node.attr, known, place)

    def test_what_is_caught_and_raised(self):
        own = {kind.name for _, kind in nodes(ast.ClassDef)}
        for place, node in nodes(ast.ExceptHandler, ast.Raise):
            if isinstance(node, ast.Raise):
                self.assertTrue(node.exc is None or isinstance(node.exc, ast.Call), place)
                continue
            named = node.type.elts if isinstance(node.type, ast.Tuple) else [node.type]
            for error in named:
                self.assertIn(ast.unparse(error), own | CAUGHT, place)

    def test_names_in_comprehensions(self):
        for place, node in nodes(ast.FunctionDef):
            self.assertEqual(list(inner_clashes(node, own_names(node), 0)), [], place)

    def test_no_assignment_with_a_sign_beside_words(self):
        for place, node in nodes(ast.AugAssign):
            self.fail(f"{place}: a word or a running total may stand there")

    def test_heaps_and_products_are_not_used(self):
        for place, node in nodes(ast.ImportFrom):
            self.assertNotIn(node.module, ("heapq", "itertools", "collections"), place)

    def test_stored_attributes_are_no_properties(self):
        plain = {
            node.name for _, _, node in methods()
            if any(ast.unparse(decorator) == "property" for decorator in node.decorator_list)
        }
        with_setter = {
            node.name for _, _, node in methods()
            if any(ast.unparse(decorator).endswith(".setter") for decorator in node.decorator_list)
        }
        for place, node in nodes(ast.Attribute):
            if isinstance(node.ctx, ast.Store):
                self.assertNotIn(node.attr, plain - with_setter, place)

    def test_what_is_sorted_is_plain(self):
        for place, node in nodes(ast.Call):
            if isinstance(node.func, ast.Name) and node.func.id in ("sorted", "min", "max"):
                keys = [ast.unparse(word.value) for word in node.keywords if word.arg == "key"]
                self.assertIn(keys, (["int"], ["str"], ["len"]), place)

    def test_generators_have_names_of_their_own(self):
        functions = [node for _, node in nodes(ast.FunctionDef)]
        yielding = {
            node.name for node in functions if any(isinstance(part, (ast.Yield, ast.YieldFrom)) for part in ast.walk(node))
        }
        for name in yielding:
            self.assertEqual([node.name for node in functions].count(name), 1, name)
            self.assertNotIn(name, {other for _, other in bound_names()} - {node.name for node in functions})

    def test_static_and_class_methods_have_names_of_their_own(self):
        kinds = {}
        for place, kind, node in methods():
            told = [ast.unparse(decorator) for decorator in node.decorator_list]
            fixed = "static" if "staticmethod" in told or "classmethod" in told else "plain"
            kinds.setdefault(node.name, set()).add(fixed)
        stored = {node.attr for _, node in nodes(ast.Attribute) if isinstance(node.ctx, ast.Store)}
        for name in kinds:
            self.assertEqual(len(kinds[name]), 1, name)
            self.assertFalse("static" in kinds[name] and name in stored | BUILTIN_METHODS, name)

    def test_methods_and_attributes_have_unlike_names(self):
        own = {node.name for _, _, node in methods()}
        with_setter = {
            node.name for _, _, node in methods()
            if any(ast.unparse(decorator).endswith(".setter") for decorator in node.decorator_list)
        }
        for place, node in nodes(ast.Attribute):
            if isinstance(node.ctx, ast.Store):
                self.assertNotIn(node.attr, own - with_setter, place)

    def test_local_names_are_none_of_the_file(self):
        for name, tree in trees():
            known = {node.name for node in tree.body if isinstance(node, ast.ClassDef)}
            known |= {alias.name for node in tree.body if isinstance(node, ast.ImportFrom) for alias in node.names}
            for node in ast.walk(tree):
                if isinstance(node, ast.arg):
                    self.assertNotIn(node.arg, known, name)
                if isinstance(node, ast.Name) and isinstance(node.ctx, ast.Store):
                    self.assertNotIn(node.id, known, f"{name}:{node.lineno}")

    def test_stars(self):
        for place, node in nodes(ast.Call, ast.Assign, ast.For, ast.comprehension):
            if isinstance(node, ast.Call):
                stars = [part.value for part in node.args if isinstance(part, ast.Starred)]
                self.assertLessEqual(len(stars), 1, place)
                for part in stars:
                    self.assertRegex(ast.unparse(part), r"\A[a-z_]+(\.[a-z_]+)?\Z", place)
                self.assertNotIn(None, [word.arg for word in node.keywords], place)
                continue
            targets = node.targets if isinstance(node, ast.Assign) else [node.target]
            for part in [part for target in targets for part in ast.walk(target)]:
                self.assertFalse(isinstance(part, ast.Starred) and not isinstance(part.value, ast.Name), place)

    def test_items_stand_beside_no_iteration(self):
        for place, kind in nodes(ast.ClassDef):
            own = [node.name for node in kind.body if isinstance(node, ast.FunctionDef)]
            self.assertEqual("__getitem__" in own, "__iter__" in own, place)
        for place, node in nodes(ast.Call):
            self.assertNotIsInstance(node.func, ast.Subscript, place)
            if isinstance(node.func, ast.Name) and node.func.id == "reversed":
                self.assertRegex(ast.unparse(node.args[0]), r"\A(list|tuple|sorted|range)\(", place)
        for name, text in sources():
            for word in ("(type)", "Meta", "metaclass="):
                self.assertNotIn(word, text, name)

    def test_super_and_families(self):
        above = {kind.name: [ast.unparse(base) for base in kind.bases] for _, kind in nodes(ast.ClassDef)}
        families = {name for name in above if above[name]} | {base for name in above for base in above[name]}
        for place, kind, node in methods():
            calls = [part for part in ast.walk(node) if isinstance(part, ast.Call)]
            told = [part for part in calls if ast.unparse(part.func).startswith("super()")]
            for part in told:
                self.assertEqual((node.name, ast.unparse(part.func)), ("__init__", "super().__init__"), place)
            if kind.name in families:
                self.assertNotRegex(node.name, r"\A__r(add|sub|mul|and|or|xor|lshift|rshift)__\Z", place)
        for place, node in nodes(ast.Attribute):
            if isinstance(node.value, ast.Name) and node.value.id in above:
                self.assertFalse(node.attr.startswith("__"), place)

    def test_no_generator_expressions_and_lambdas(self):
        for place, node in nodes(ast.GeneratorExp, ast.Lambda, ast.NamedExpr, ast.Match, ast.Set, ast.SetComp):
            self.fail(f"{place}: {ast.unparse(node)}")

    def test_default_values(self):
        for place, node in nodes(ast.FunctionDef):
            for value in node.args.defaults + [part for part in node.args.kw_defaults if part is not None]:
                self.assertIsInstance(ast.literal_eval(value), (int, str, bool, type(None), tuple), place)
            if node.args.vararg is not None:
                self.assertRegex(node.name, r"\A(__init__|[a-z][a-z_]*)\Z", place)

    def test_is_only_with_constants(self):
        for place, node in nodes(ast.Compare):
            if any(isinstance(sign, (ast.Is, ast.IsNot)) for sign in node.ops):
                sides = [node.left] + node.comparators
                self.assertTrue(any(isinstance(side, ast.Constant) or ast.unparse(side) == "self" for side in sides), place)


if __name__ == "__main__":
    unittest.main()
