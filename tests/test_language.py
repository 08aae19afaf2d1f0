"""../shared/LANGUAGE.md: what of its rules a look at the files can tell. The package keeps to less than the rules allow."""

import ast
import builtins
import re
import unittest
from pathlib import Path

PACKAGE = Path(__file__).resolve().parent.parent / "onelongturn"
FILES = {path.stem: path.read_text(encoding="utf-8") for path in sorted(PACKAGE.glob("*.py"))}
TREES = {stem: ast.parse(text) for stem, text in FILES.items()}
NODES = set("""
Module Expr Import ImportFrom alias FunctionDef arguments arg ClassDef Assign If While For Return Break Continue Pass
Raise With withitem Name Constant Attribute Call keyword Subscript Slice Tuple List Dict ListComp DictComp comprehension BinOp UnaryOp
BoolOp Compare IfExp JoinedStr FormattedValue Starred Yield Lambda Add Sub Mult FloorDiv Mod Pow LShift BitOr BitAnd BitXor USub
Invert
Not And Or Eq NotEq Lt LtE Gt GtE In NotIn Is IsNot Load Store
""".split())
BUILTINS = set("""
len range enumerate zip min max sum abs sorted reversed int str bool list tuple dict set isinstance any all iter
staticmethod property ValueError NotImplemented
""".split())
METHODS = set("""
append clear copy count endswith extend find get index insert isalnum isalpha isdigit islower isspace isupper items
join keys ljust lower lstrip partition pop remove replace reverse rfind rjust rpartition rsplit rstrip setdefault split
splitlines startswith strip update upper values zfill bit_length isascii isdecimal
""".split())
DUNDERS = set("""
__init__ __eq__ __str__ __len__ __call__ __iter__ __lt__ __le__ __gt__ __ge__ __add__ __sub__ __mul__ __and__ __or__
__xor__ __radd__ __rmul__ __rmod__ __rfloordiv__ __neg__ __invert__ __bool__ __contains__ __getitem__ __setitem__ __iadd__
__isub__ __enter__ __exit__
""".split())
BARRED = re.compile(r"\b(type|typing|enum|Enum|Flag|Generic|Protocol|ABC|namedtuple|abstractmethod)\b|"
                    r"dataclass|overload|contextmanager|_wall|Meta|metaclass=")
NOT_NAMES = set("""
mro elements open input law version_info with_traceback add_note register attrgetter breakpoint builtins compile dir eval
exec exit gc globals help importlib locals methodcaller os super vars
""".split())
INTERFACE = {
    "days": {"Day": "__init__ __rmod__ __rfloordiv__ forward __mul__ __rmul__ __contains__ __eq__ __str__"},
    "clocks": {"Clocks": "__init__ of whole __iter__ __getitem__ longest __or__ __and__ __sub__ __xor__ __invert__"
                         " __le__ __lt__ __ge__ __gt__ __eq__ __add__ __radd__ __contains__ many __len__ __bool__"
                         " each first_from __str__ read"},
    "trips": {"Trip": "ready __call__ __add__ __sub__ __lt__ __le__ __eq__ __str__ read", "Paused": "",
              "Run": "__init__ ready __call__ __add__ __sub__ __lt__ __le__ __eq__ __str__",
              "Stay": "__init__ ready __call__ __add__ __sub__ __lt__ __le__ __eq__ __str__"},
    "tables": {"Table": "__init__ of __getitem__ between __contains__ __len__ __iter__ __add__ with_trips without moved"
                        " scaled __eq__",
               "Pauses": "__init__ of __getitem__ put __iter__ __len__ __add__ __or__ __and__ __le__ __lt__ __ge__"
                         " __gt__ __eq__ __str__ read"},
    "curves": {"Curve": "__init__ __getitem__ least greatest __iter__ __add__ __radd__ __sub__ __neg__ __mul__ __rmul__"
                        " __eq__ moved where total"},
    "plans": {"Plan": "__init__ follows __getitem__ wait days vehicles turns __len__ __iter__ is_one curve spare meet"
                      " swapped walk __eq__"},
    "fewest": {"Fewest": "__init__ __eq__"},
    "rules": {"Rule": "", "FirstIn": "__call__ __eq__", "LastIn": "__call__ __eq__",
              "Named": "__init__ __call__ __eq__"},
    "swaps": {"Merged": "__init__ __eq__"},
    "turns": {"Turning": "__bool__", "OneTurn": "__init__ __bool__ __eq__", "Apart": "__init__ __bool__ __eq__"},
    "stairs": {"Stair": "__init__ __call__ longest_pause __sub__ __le__ __eq__", "Above": "__init__ __eq__",
               "Endless": "__init__ __eq__"},
    "joined": {"Saved": "__init__ __eq__"},
    "rounds": {"Rounds": "__init__ __eq__ lots_of vehicles_of"},
    "stays": {"MostStays": "__init__ __eq__"},
    "board": {"Board": "__init__ __getitem__ __setitem__ put drop __contains__ __len__ __iter__ __iadd__ __isub__ pause"
                       " told_table told_pauses is_level fewest_now one_now minutes set_minutes twin undo deeds trial"
                       " tried"},
    "yard": {"Yard": "__init__ day_on lived __len__ __getitem__ __iter__ waiting done undo trial tried"},
    "desk": {"Desk": "__init__ ask __call__ run board_now __len__"},
}
# What may be imported from elsewhere.
LIBRARY = {"math": ("gcd", "comb")}

FUNCTIONS = {
    "curves": ("stands(table, pauses, place)", "pausing(table, pauses, place)", "under_way(table)"),
    "reader": ("read_table(text)", "read_pauses(text)", "read_plan(text)"),
    "fewest": ("fewest(table, pauses=None)", "stock(table, pauses, place)", "under(table)",
               "room(table, pauses, place)", "days_by(table, pauses, cuts)"),
    "rules": ("plan_by(table, pauses, rule)",),
    "counts": ("plans_count(table, pauses)", "plan_at(table, pauses, number)", "number_of(plan)",
               "all_plans(table, pauses)"),
    "swaps": ("merged(plan)", "fewest_swaps(one, other)", "swaps_to(one, other)"),
    "turns": ("stretches(table, pauses, place)", "lots(table, pauses, taken=())", "one_turn(table, pauses=None)"),
    "stairs": ("stair(table, place)", "above(one, other)", "alike(one, other)", "lateness(table, pauses, stocks)"),
    "shifts": ("shifts(table, pauses, names)", "nearest(table, pauses, names, number)"),
    "joined": ("saved(one, other, pauses=None)", "saved_ever(one, other)"),
    "rounds": ("rounds(table, pauses=None)", "unrolled(table, k)"),
    "stays": ("free(table, pauses, place, takes)", "kept(table, pauses, place, takes)",
              "most_stays(table, pauses, place, takes, spare=0)"),
    "papers": ("fewest_paper(table, pauses)", "turn_paper(table, pauses)",
               "stays_paper(table, pauses, place, takes, spare=0)"),
    "looker": ("shows_fewest(table, pauses, value)", "shows_turn(table, pauses, value)",
               "shows_stays(table, pauses, place, takes, spare, value)"),
    "texts": ("write_table(table)", "write_pauses(pauses)", "write_plan(plan)"),
}
PARAMETERS = {
    "__contains__": ["x"], "__getitem__": ["at"], "__setitem__": ["at", "worth"], "__exit__": ["kind", "value", "trace"],
    **dict.fromkeys(("__str__", "__len__", "__iter__", "__bool__", "__neg__", "__invert__", "__enter__"), []),
}


def walked():
    """Each node of the package, with the file that it stands in."""
    return [(stem, node) for stem, tree in TREES.items() for node in ast.walk(tree)]


def functions_of(tree):
    return [node for node in ast.walk(tree) if isinstance(node, ast.FunctionDef)]


def lambdas_of(tree):
    return [node for node in ast.walk(tree) if isinstance(node, ast.Lambda)]


def docstrings():
    """The constants that are docstrings."""
    found = set()
    for _, node in walked():
        if isinstance(node, (ast.Module, ast.ClassDef, ast.FunctionDef)):
            first = node.body[0]
            if isinstance(first, ast.Expr) and isinstance(first.value, ast.Constant):
                found.add(id(first.value))
    return found


def top_names(tree):
    """The names that are bound at module level, as often as they are."""
    names = []
    for node in tree.body:
        if isinstance(node, (ast.FunctionDef, ast.ClassDef)):
            names.append(node.name)
        if isinstance(node, ast.ImportFrom):
            names.extend(alias.name for alias in node.names)
        if isinstance(node, ast.Assign):
            names.extend(target.id for target in node.targets)
    return names


def local_names(function):
    told = [*function.args.posonlyargs, *function.args.args, *function.args.kwonlyargs]
    told += [one for one in (function.args.vararg, function.args.kwarg) if one is not None]
    stored = [node.id for node in ast.walk(function) if isinstance(node, ast.Name) and isinstance(node.ctx, ast.Store)]
    return [one.arg for one in told] + stored


def is_call(node, *names):
    return isinstance(node, ast.Call) and isinstance(node.func, ast.Name) and node.func.id in names


def is_plain(node):
    """Whether this is plainly a number, or a list or set of what can be ordered without a class of the package."""
    if isinstance(node, ast.BinOp):
        return is_plain(node.left) and is_plain(node.right)
    if isinstance(node, ast.ListComp):
        return is_plain(node.elt)
    return isinstance(node, (ast.Constant, ast.JoinedStr)) or is_call(node, "int", "len", "str", "set", "range")


class TestFiles(unittest.TestCase):
    def test_folder_and_sizes(self):
        inside = [path.name for path in PACKAGE.iterdir() if path.name != "__pycache__"]
        self.assertEqual(sorted(inside), sorted(f"{stem}.py" for stem in FILES))
        for stem, text in FILES.items():
            self.assertRegex(stem, r"^[a-z_]+$")
            self.assertRegex(text, r"\A[ -~\n]*\Z", stem)
            rows = text.split("\n")
            self.assertLessEqual(len(rows), 399, stem)
            self.assertLessEqual(max(map(len, rows)), 120, stem)
            for function in functions_of(TREES[stem]):
                self.assertLessEqual(function.end_lineno - function.lineno + 1, 40, function.name)

    def test_words_that_do_not_occur(self):
        for stem, text in FILES.items():
            told = re.sub(r'""".*?"""', "", text, flags=re.DOTALL)
            self.assertIsNone(BARRED.search(told), stem)

    def test_kinds_of_nodes(self):
        for stem, node in walked():
            self.assertIn(type(node).__name__, NODES, (stem, getattr(node, "lineno", 0)))

    def test_module_level(self):
        for stem, tree in TREES.items():
            for at, node in enumerate(tree.body):
                doc = at == 0 and isinstance(node, ast.Expr) and isinstance(node.value, ast.Constant)
                kinds = (ast.ImportFrom, ast.FunctionDef, ast.ClassDef, ast.Assign)
                self.assertTrue(doc or isinstance(node, kinds), (stem, node.lineno))
                if isinstance(node, ast.Assign):
                    self.assertFalse([part for part in ast.walk(node.value) if isinstance(part, ast.Call)])
            names = top_names(tree)
            self.assertEqual(len(names), len(set(names)), stem)

    def test_imports(self):
        needs = {}
        for stem, tree in TREES.items():
            needs[stem] = []
            for node in ast.walk(tree):
                if isinstance(node, ast.ImportFrom):
                    self.assertIn(node, tree.body)
                    if node.module in LIBRARY:
                        self.assertFalse([one for one in node.names if one.asname or one.name not in LIBRARY[node.module]])
                        continue
                    self.assertTrue(node.level == 0 and node.module.startswith("onelongturn."), (stem, node.lineno))
                    other = node.module.removeprefix("onelongturn.")
                    needs[stem].append(other)
                    defined = [part for part in TREES[other].body if not isinstance(part, ast.ImportFrom)]
                    for alias in node.names:
                        self.assertIsNone(alias.asname)
                        self.assertIn(alias.name, top_names(ast.Module(defined, [])))
                self.assertNotIsInstance(node, ast.Import)
        while needs:
            free = [stem for stem in needs if not any(other in needs for other in needs[stem])]
            self.assertTrue(free, f"files import from each other: {sorted(needs)}")
            for stem in free:
                del needs[stem]


class TestNames(unittest.TestCase):
    def test_names_of_builtins_and_barred_names(self):
        taken = set(dir(builtins)) | NOT_NAMES
        for stem, tree in TREES.items():
            names = top_names(tree)
            for function in [*functions_of(tree), *lambdas_of(tree)]:
                local = local_names(function)
                self.assertFalse((taken | set(names)) & set(local), (stem, function.lineno))
            self.assertFalse(taken & set(names), stem)

    def test_names_that_are_read(self):
        for stem, tree in TREES.items():
            known = set(top_names(tree)) | BUILTINS
            for function in [*functions_of(tree), *lambdas_of(tree)]:
                known |= set(local_names(function))
            setters = {id(one.value) for node in functions_of(tree) for one in node.decorator_list
                       if isinstance(one, ast.Attribute)}
            for node in ast.walk(tree):
                if isinstance(node, ast.Name) and isinstance(node.ctx, ast.Load) and id(node) not in setters:
                    self.assertIn(node.id, known, (stem, node.lineno))
                    self.assertNotEqual(node.id, "_", (stem, node.lineno))

    def test_methods_and_attributes(self):
        classes = [node for _, node in walked() if isinstance(node, ast.ClassDef)]
        methods = {part.name for node in classes for part in node.body if isinstance(part, ast.FunctionDef)}
        stored = {node.attr for _, node in walked() if isinstance(node, ast.Attribute) and isinstance(node.ctx, ast.Store)}
        self.assertFalse({word for word in methods if word.startswith("__")} - DUNDERS)
        self.assertFalse(methods & stored)
        self.assertFalse((methods | stored) & (METHODS - {"count", "index"}))
        for stem, node in walked():
            if isinstance(node, ast.Call) and isinstance(node.func, ast.Attribute):
                self.assertIn(node.func.attr, METHODS | methods, (stem, node.lineno))
                self.assertFalse(node.func.attr.startswith("__"), (stem, node.lineno))

    def test_one_generator_of_each_name(self):
        defined = [node for _, node in walked() if isinstance(node, ast.FunctionDef)]
        generators = [node.name for node in defined if any(isinstance(part, ast.Yield) for part in ast.walk(node))]
        for word in generators:
            self.assertEqual([node.name for node in defined].count(word), 1)

    def test_methods_of_the_interface(self):
        for stem, classes in INTERFACE.items():
            for word, methods in classes.items():
                node = next(part for part in TREES[stem].body if isinstance(part, ast.ClassDef) and part.name == word)
                own = {part.name for part in node.body if isinstance(part, ast.FunctionDef)}
                self.assertFalse(set(methods.split()) - own, word)

    def test_functions_of_the_interface(self):
        for stem, told in FUNCTIONS.items():
            own = {node.name: node for node in TREES[stem].body if isinstance(node, ast.FunctionDef)}
            for text in told:
                word = text.split("(")[0]
                self.assertEqual(f"{word}({ast.unparse(own[word].args)})", text)

    def test_parameters_of_double_underscore_methods(self):
        for _, node in walked():
            if isinstance(node, ast.FunctionDef) and node.name.startswith("__") and node.name not in (
                    "__init__", "__call__"):
                told = [one.arg for one in node.args.args]
                self.assertEqual(told, ["self", *PARAMETERS.get(node.name, ["other"])])

    def test_what_compares_measures_and_tells_assigns_nothing(self):
        for stem, node in walked():
            if isinstance(node, ast.FunctionDef) and node.name in ("__eq__", "__str__", "__len__", "__bool__", "__iter__"):
                self.assertFalse([part for part in ast.walk(node) if isinstance(part, ast.Assign)], (stem, node.lineno))
                self.assertIsInstance(node.body[-1], ast.Return)

    def test_families_have_no_reflected_methods(self):
        for _, node in walked():
            if isinstance(node, ast.ClassDef) and node.bases:
                own = {part.name for part in node.body if isinstance(part, ast.FunctionDef)}
                self.assertFalse(own & {"__radd__", "__rmul__", "__rmod__", "__rfloordiv__", "__gt__", "__ge__"})


class TestExpressions(unittest.TestCase):
    def test_constants(self):
        docs = docstrings()
        for stem, node in walked():
            if isinstance(node, ast.Constant) and id(node) not in docs:
                self.assertIn(type(node.value), (int, str, bool, type(None)), (stem, node.lineno))
                if isinstance(node.value, str):
                    self.assertNotIn("%", node.value)

    def test_is_only_beside_none(self):
        for stem, node in walked():
            if isinstance(node, ast.Compare):
                for sign, right in zip(node.ops, node.comparators):
                    if isinstance(sign, (ast.Is, ast.IsNot)):
                        self.assertTrue(isinstance(right, ast.Constant) and right.value is None, (stem, node.lineno))

    def test_what_is_ordered_is_plain(self):
        for stem, node in walked():
            if is_call(node, "sorted", "min", "max"):
                self.assertTrue(any(is_plain(part) for part in node.args), (stem, node.lineno))

    def test_sets_are_sorted_or_measured_at_once(self):
        parents = {id(part): node for _, node in walked() for part in ast.iter_child_nodes(node)}
        for stem, node in walked():
            if is_call(node, "set"):
                self.assertTrue(is_call(parents[id(node)], "sorted", "len"), (stem, node.lineno))

    def test_lists_that_grow_in_a_loop_are_plainly_not_what_is_walked(self):
        for stem, node in walked():
            if isinstance(node, ast.For) and isinstance(node.iter, (ast.Name, ast.Attribute)):
                for part in ast.walk(node):
                    grows = isinstance(part, ast.Call) and isinstance(part.func, ast.Attribute) and part.func.attr == "append"
                    self.assertFalse(grows and isinstance(part.func.value, ast.Call), (stem, part.lineno if grows else 0))

    def test_raised_on_the_spot(self):
        for stem, node in walked():
            if isinstance(node, ast.Raise):
                self.assertTrue(isinstance(node.exc, ast.Call) and isinstance(node.exc.func, ast.Name), (stem, node.lineno))
                self.assertIn(node.exc.func.id, top_names(TREES["errors"]))

    def test_decorators(self):
        for stem, node in walked():
            if isinstance(node, (ast.FunctionDef, ast.ClassDef)):
                for one in node.decorator_list:
                    self.assertIn(ast.unparse(one), ("staticmethod", "property", f"{node.name}.setter"))

    def test_exponents_are_literal(self):
        for stem, node in walked():
            if isinstance(node, ast.BinOp) and isinstance(node.op, ast.Pow):
                self.assertTrue(isinstance(node.right, ast.Constant) and 0 <= node.right.value <= 64)
