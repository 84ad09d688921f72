"""The rules of LANGUAGE.md that a test can tell plainly."""

import ast
import builtins
import pathlib
import re
import unittest
import warnings

ROOT = pathlib.Path(__file__).resolve().parent.parent
PACKAGE = ROOT / "helpedcalls"
FUNCTIONS = (ast.FunctionDef, ast.AsyncFunctionDef)
USED_BUILTINS = set(
    "len range enumerate zip min max sum abs sorted reversed int str bool list tuple dict set frozenset isinstance ord "
    "repr any all divmod pow iter next map Exception ValueError TypeError KeyError IndexError LookupError "
    "ZeroDivisionError ArithmeticError OverflowError RuntimeError NotImplementedError AttributeError".split()
)
METHODS = set(
    "append clear copy count endswith extend find get index insert isalnum isalpha isdigit islower isspace isupper "
    "items join keys ljust lower lstrip partition pop remove replace reverse rfind rjust rpartition rsplit rstrip "
    "setdefault split splitlines startswith strip update upper values zfill bit_length add discard sort".split()
)
BARRED_NAMES = set(
    "register mro elements open input law version_info with_traceback add_note attrgetter breakpoint builtins compile "
    "copyright credits delattr dir eval exec exit gc globals help id importlib license locals methodcaller os quit "
    "super type vars sys".split()
)
BARRED_WORDS = set(
    "typing typing_extensions enum Enum IntEnum StrEnum Flag IntFlag Generic Protocol ABC ABCMeta namedtuple "
    "NamedTuple TypedDict TYPE_CHECKING abstractmethod dataclass overload contextmanager _wall _WallAttr".split()
)
STATEMENTS = (
    ast.Assign, ast.AugAssign, ast.If, ast.While, ast.For, ast.Return, ast.Break, ast.Continue, ast.Pass, ast.Raise,
    ast.Assert, ast.Delete, ast.Try, ast.Expr, ast.FunctionDef, ast.ClassDef, ast.ImportFrom, ast.Nonlocal, ast.Match,
    ast.With, ast.AnnAssign,
)
MODULE_STATEMENTS = (ast.Assign, ast.Expr, ast.FunctionDef, ast.ClassDef, ast.ImportFrom)
LIBRARY = {"heapq", "math", "itertools", "collections", "__future__"}


def files():
    return sorted(PACKAGE.rglob("*.py"))


def trees():
    for path in files():
        yield path, ast.parse(path.read_text(encoding="utf-8"))


def bound_names(tree):
    """All names that a file gives a meaning, with their lines."""
    for node in ast.walk(tree):
        if isinstance(node, FUNCTIONS + (ast.ClassDef,)):
            yield node.name, node.lineno
        elif isinstance(node, ast.arg):
            yield node.arg, node.lineno
        elif isinstance(node, ast.Name) and isinstance(node.ctx, ast.Store):
            yield node.id, node.lineno
        elif isinstance(node, ast.Attribute) and isinstance(node.ctx, ast.Store):
            yield node.attr, node.lineno
        elif isinstance(node, ast.alias):
            yield node.asname or node.name, 0
        elif isinstance(node, ast.ExceptHandler) and node.name:
            yield node.name, node.lineno


def stored_attributes(tree):
    """The names of the attributes that are assigned in a class or a file, with their lines."""
    for node in ast.walk(tree):
        if isinstance(node, ast.Attribute) and isinstance(node.ctx, ast.Store):
            yield node.attr, node.lineno


def defined_names(tree):
    """The functions, classes and plain values that stand in a file itself."""
    names = [part.name for part in tree.body if isinstance(part, FUNCTIONS + (ast.ClassDef,))]
    return names + [target.id for part in tree.body if isinstance(part, ast.Assign) for target in part.targets]


def imported_files(tree):
    return [node.module for node in tree.body if isinstance(node, ast.ImportFrom)]


class Language(unittest.TestCase):
    def each(self, wrong):
        """No file has a place that the rule finds wrong."""
        self.assertEqual([(path.name,) + tuple(row) for path, tree in trees() for row in wrong(path, tree)], [])

    def test_l1_the_package_holds_plain_files_alone(self):
        found = [path for path in PACKAGE.rglob("*") if "__pycache__" not in path.parts]
        self.assertGreater(len(found), 1)
        self.assertLessEqual(len(found), 100)
        for path in found:
            self.assertTrue(path.is_dir() or path.suffix == ".py", path)
            self.assertRegex(path.stem, r"^([a-z][a-z0-9_]*|__init__|__main__)$")
            self.assertFalse(path.stem in vars(builtins), path)
            self.assertNotRegex(path.stem, r"^(law_.*|tests?|testing|test_.*|site|conftest|(site|user)customize)$")
            if path.is_dir():
                self.assertTrue((path / "__init__.py").is_file(), path)
        self.assertTrue((PACKAGE / "__init__.py").is_file())

    def test_l2_imports_name_files_of_the_package(self):
        def wrong(path, tree):
            body = [node for node in tree.body if not isinstance(node, ast.Expr)]
            top = [isinstance(node, ast.ImportFrom) for node in body]
            for node in ast.walk(tree):
                if isinstance(node, ast.Import):
                    yield ("import", node.lineno)
                if not isinstance(node, ast.ImportFrom) or node.module in LIBRARY:
                    continue
                source = ROOT.joinpath(*(node.module or "").split(".")).with_suffix(".py")
                if node.level or not (node.module or "").startswith("helpedcalls.") or not source.is_file():
                    yield ("from", node.lineno)
                    continue
                for alias in node.names:
                    if alias.name not in defined_names(ast.parse(source.read_text())) or alias.asname:
                        yield (alias.name, node.lineno)
            if top != sorted(top, reverse=True):
                yield ("imports stand below",)
        self.each(wrong)

    def test_l16_no_two_files_import_from_each_other(self):
        needs = {f"helpedcalls.{path.stem}": imported_files(tree) for path, tree in trees()}
        while needs:
            free = [name for name in needs if not any(other in needs for other in needs[name])]
            self.assertTrue(free, needs)
            for name in free:
                del needs[name]

    def test_l3_and_l15_modules_bind_each_name_once_and_run_nothing(self):
        def wrong(path, tree):
            seen = set()
            for node in tree.body:
                if not isinstance(node, MODULE_STATEMENTS):
                    yield ("statement", node.lineno)
                if isinstance(node, ast.Expr) and not isinstance(node.value, ast.Constant):
                    yield ("expression", node.lineno)
                names = [node.name] if hasattr(node, "name") else []
                if isinstance(node, ast.ImportFrom):
                    names = [alias.name for alias in node.names]
                if isinstance(node, ast.Assign):
                    names = [target.id for target in node.targets]
                for name in names:
                    if name in seen:
                        yield (name, node.lineno)
                    seen.add(name)
        self.each(wrong)

    def test_l4_and_l6_statements(self):
        def wrong(path, tree):
            for node in ast.walk(tree):
                if isinstance(node, ast.stmt) and not isinstance(node, STATEMENTS):
                    yield (type(node).__name__, node.lineno)
                if isinstance(node, FUNCTIONS + (ast.ClassDef,)) and node.decorator_list:
                    yield ("decorator", node.lineno)
        self.each(wrong)

    def test_l5_and_l18_classes(self):
        def wrong(path, tree):
            for node in ast.walk(tree):
                if not isinstance(node, ast.ClassDef):
                    continue
                methods = [part.name for part in node.body if isinstance(part, FUNCTIONS)]
                stored = {name for name, _ in stored_attributes(node)}
                if len(set(methods)) != len(methods) or stored & set(methods):
                    yield (node.name, "one meaning for each name")
                if any(name.startswith("__") and name != "__init__" for name in methods):
                    yield (node.name, "double underscores")
                if len(node.bases) > 1 or node.keywords:
                    yield (node.name, "bases")
            for node in ast.walk(tree):
                if isinstance(node, ast.Attribute) and isinstance(node.ctx, ast.Store):
                    if not isinstance(node.value, ast.Name):
                        yield (node.attr, node.lineno)
        self.each(wrong)

    def test_l18_attributes_that_are_read_are_assigned_somewhere(self):
        known = {name for _, tree in trees() for name, _ in stored_attributes(tree)}

        def wrong(path, tree):
            called = [node.func for node in ast.walk(tree) if isinstance(node, ast.Call)]
            for node in ast.walk(tree):
                if isinstance(node, ast.Attribute) and node not in called and node.attr not in known:
                    yield (node.attr, node.lineno)
        self.each(wrong)

    def test_l26_attributes_have_no_names_of_builtin_values(self):
        free = {"count", "index", "title", "find", "get", "join", "lower", "upper", "split", "strip", "copy", "add"}
        taken = {name for value in (0, "", [], (), {}, set(), b"") for name in dir(value)} - free

        def wrong(path, tree):
            for name, line in stored_attributes(tree):
                if name in taken:
                    yield (name, line)
        self.each(wrong)

    def test_l7_no_floats_and_no_division(self):
        def wrong(path, tree):
            for node in ast.walk(tree):
                if isinstance(node, ast.Constant) and isinstance(node.value, (float, complex, type(...))):
                    yield (node.value, node.lineno)
                if isinstance(node, ast.Div):
                    yield ("/",)
        self.each(wrong)

    def test_l8_and_l17_builtins(self):
        def wrong(path, tree):
            for node in ast.walk(tree):
                if isinstance(node, ast.Name) and node.id in vars(builtins) and node.id not in USED_BUILTINS:
                    yield (node.id, node.lineno)
            for name, line in bound_names(tree):
                if name in vars(builtins) or name in BARRED_NAMES:
                    yield (name, line)
        self.each(wrong)

    def test_l10_size(self):
        def wrong(path, tree):
            lines = path.read_text(encoding="utf-8").split("\n")
            if len(lines) > 400:
                yield (len(lines), "lines")
            for at, line in enumerate(lines):
                if len(line) > 120 or "\t" in line:
                    yield (at + 1, line)
            for node in ast.walk(tree):
                if isinstance(node, FUNCTIONS) and node.end_lineno - node.lineno + 1 > 40:
                    yield (node.name, node.lineno)
        self.each(wrong)

    def test_l12_plain_names(self):
        def wrong(path, tree):
            for name, line in bound_names(tree):
                if not re.fullmatch(r"_|_?[A-Za-z][A-Za-z0-9_]*|__init__", name):
                    yield (name, line)
        self.each(wrong)

    def test_l14_characters(self):
        for path in files():
            data = path.read_bytes()
            odd = sorted({byte for byte in data if byte != 10 and not 32 <= byte <= 126})
            self.assertEqual(odd, [], path.name)

    def test_l15_no_variable_has_the_name_of_an_import_or_a_class(self):
        def wrong(path, tree):
            held = {alias.name for node in tree.body if isinstance(node, ast.ImportFrom) for alias in node.names}
            held.update(node.name for node in tree.body if isinstance(node, ast.ClassDef))
            for node in ast.walk(tree):
                name = node.arg if isinstance(node, ast.arg) else getattr(node, "id", None)
                stored = isinstance(node, ast.arg) or isinstance(getattr(node, "ctx", None), ast.Store)
                if stored and name in held:
                    yield (name, node.lineno)
        self.each(wrong)

    def test_l17_words(self):
        def wrong(path, tree):
            for word in re.findall(r"\w+", path.read_text(encoding="utf-8")):
                if word in BARRED_WORDS:
                    yield (word,)
        self.each(wrong)

    def test_l19_errors_are_caught_by_name_and_made_on_the_spot(self):
        def wrong(path, tree):
            for node in ast.walk(tree):
                if isinstance(node, ast.ExceptHandler) and node.type is None:
                    yield ("except", node.lineno)
                if isinstance(node, ast.Raise) and node.exc is not None:
                    if not isinstance(node.exc, ast.Call) or not isinstance(node.exc.func, ast.Name):
                        yield ("raise", node.lineno)
        self.each(wrong)

    def test_l20_is_stands_with_none_true_and_false(self):
        def wrong(path, tree):
            for node in ast.walk(tree):
                if isinstance(node, ast.Compare) and any(isinstance(sign, (ast.Is, ast.IsNot)) for sign in node.ops):
                    told = [part.value for part in [node.left] + node.comparators if isinstance(part, ast.Constant)]
                    if not any(value is None or isinstance(value, bool) for value in told):
                        yield ("is", node.lineno)
        self.each(wrong)

    def test_l22_keywords_of_builtins(self):
        free = {"sorted": ("key", "reverse"), "min": ("key", "default"), "max": ("key", "default"),
                "sum": ("start",), "enumerate": ("start",), "zip": ("strict",)}

        def wrong(path, tree):
            for node in ast.walk(tree):
                if isinstance(node, ast.Call) and isinstance(node.func, ast.Name) and node.func.id in USED_BUILTINS:
                    for told in node.keywords:
                        if told.arg not in free.get(node.func.id, ()):
                            yield (node.func.id, node.lineno)
        self.each(wrong)

    def test_l23_what_is_iterated_at_once(self):
        takers = "list tuple dict sorted sum any all enumerate zip min max".split()

        def iterated(tree):
            for node in ast.walk(tree):
                if isinstance(node, (ast.For, ast.comprehension)):
                    yield node.iter
                if isinstance(node, ast.Call) and isinstance(node.func, ast.Name) and node.func.id in takers:
                    yield from node.args

        def wrong(path, tree):
            held = list(iterated(tree))
            for node in ast.walk(tree):
                if not isinstance(node, ast.Call) or node in held:
                    continue
                # A range may be kept.
                if isinstance(node.func, ast.Name) and node.func.id in ("zip", "enumerate", "reversed"):
                    yield (node.func.id, node.lineno)
                if isinstance(node.func, ast.Attribute) and node.func.attr in ("items", "keys", "values"):
                    yield (node.func.attr, node.lineno)
        self.each(wrong)

    def test_l23_no_loop_changes_what_it_iterates_over(self):
        changing = "append clear extend insert pop remove reverse setdefault update add discard sort".split()

        def wrong(path, tree):
            for loop in ast.walk(tree):
                if not isinstance(loop, ast.For):
                    continue
                over = {ast.unparse(part) for part in ast.walk(loop.iter) if isinstance(part, (ast.Name, ast.Attribute))}
                for node in [node for row in loop.body for node in ast.walk(row)]:
                    if isinstance(node, ast.Call) and isinstance(node.func, ast.Attribute):
                        if node.func.attr in changing and ast.unparse(node.func.value) in over:
                            yield (ast.unparse(node), node.lineno)
                    if isinstance(node, ast.Subscript) and isinstance(node.ctx, (ast.Store, ast.Del)):
                        if ast.unparse(node.value) in over:
                            yield (ast.unparse(node), node.lineno)
        self.each(wrong)

    def test_l24_no_frozen_sets_and_no_loops_over_sets(self):
        def wrong(path, tree):
            for node in ast.walk(tree):
                if isinstance(node, ast.Name) and node.id == "frozenset":
                    yield ("frozenset", node.lineno)
                if isinstance(node, (ast.For, ast.comprehension)):
                    over = node.iter
                    called = isinstance(over, ast.Call) and isinstance(over.func, ast.Name) and over.func.id == "set"
                    if called or isinstance(over, (ast.Set, ast.SetComp)):
                        yield ("loop over a set", over.lineno)
        self.each(wrong)

    def test_l25_methods_of_builtin_values(self):
        own = {node.name for _, tree in trees() for node in ast.walk(tree) if isinstance(node, FUNCTIONS)}

        def wrong(path, tree):
            for node in ast.walk(tree):
                if isinstance(node, ast.Call) and isinstance(node.func, ast.Attribute):
                    if node.func.attr not in METHODS | own:
                        yield (node.func.attr, node.lineno)
        self.each(wrong)

    def test_l27_no_line_has_a_warning(self):
        with warnings.catch_warnings():
            warnings.simplefilter("error")
            for path in files():
                compile(path.read_text(encoding="utf-8"), str(path), "exec")

    def test_l27_strings(self):
        def wrong(path, tree):
            for node in ast.walk(tree):
                if isinstance(node, ast.Constant) and isinstance(node.value, (str, bytes)):
                    text = node.value if isinstance(node.value, str) else node.value.decode("latin-1")
                    if "%" in text or text.endswith("._") or re.fullmatch(r"__.*__", text):
                        yield (text, node.lineno)
        self.each(wrong)


class Interface(unittest.TestCase):
    def test_l16_functions_are_defined_where_the_interface_lists_them(self):
        told = {
            "objects": "is_object is_call calls states first_state applied replayed",
            "telling": "is_silent commute always_commute alike can_tell class_count parting tellings",
            "histories": "is_history shows_order shows_in_step spans whole written explained in_step order_count "
                         "first_wrong",
            "several": "is_wide_history shows_all in_step_all parts woven explained_all",
            "shared": "history_of own_steps state_behind going applied_order alone bound starving standing_count "
                      "most_steps outcomes last_states bad_weaving",
            "programs": "is_program cell_count method_names",
            "coded": "code_history cells_behind code_count code_bad",
            "ending": "each_alone somebody everybody silent_ring starving_ring shows_silent shows_starving",
            "samples": "sample report",
            "errors": "SharedError BadObject BadCall BadState BadPair BadHistory BadPlans BadWeaving BadProgram "
                      "BadOrders TooMany",
        }
        for stem, names in told.items():
            tree = ast.parse((PACKAGE / f"{stem}.py").read_text())
            defined = [node.name for node in tree.body if isinstance(node, FUNCTIONS + (ast.ClassDef,))]
            self.assertEqual([name for name in names.split() if name not in defined], [])

    def test_arguments_have_the_names_of_the_interface(self):
        told = {
            "is_object": "value", "is_call": "thing value", "calls": "thing", "states": "thing", "first_state": "thing",
            "applied": "thing state call", "replayed": "thing row", "is_silent": "thing call",
            "commute": "thing state one other", "always_commute": "thing one other", "alike": "one other",
            "can_tell": "thing", "class_count": "thing", "parting": "one other", "tellings": "thing",
            "is_history": "thing value", "shows_order": "thing history value", "shows_in_step": "thing history value",
            "spans": "thing history", "whole": "thing row", "written": "thing history", "explained": "thing history",
            "in_step": "thing history", "order_count": "thing history", "first_wrong": "thing history",
            "is_wide_history": "things value", "shows_all": "things history value", "in_step_all": "things history",
            "parts": "things history", "woven": "things history orders", "explained_all": "things history",
            "alone": "way thing plans weaving thread", "bound": "many", "starving": "thing call other many",
            "is_program": "thing value", "cell_count": "thing text", "method_names": "thing text",
            "code_history": "thing text plans weaving", "cells_behind": "thing text plans weaving",
            "starving_ring": "thing text plans thread", "shows_silent": "thing text plans value",
            "shows_starving": "thing text plans thread value", "sample": "name",
        }
        for name in "code_count code_bad each_alone somebody everybody silent_ring report".split():
            told[name] = "thing text plans"
        for name in "history_of own_steps state_behind going applied_order".split():
            told[name] = "way thing plans weaving"
        for name in "standing_count most_steps outcomes last_states bad_weaving".split():
            told[name] = "way thing plans"
        found = {}
        for stem in "objects telling histories several shared programs coded ending samples".split():
            for node in ast.parse((PACKAGE / f"{stem}.py").read_text()).body:
                if isinstance(node, ast.FunctionDef) and not node.name.startswith("_"):
                    found[node.name] = " ".join(part.arg for part in node.args.args)
        self.assertEqual(found, told)


if __name__ == "__main__":
    unittest.main()
