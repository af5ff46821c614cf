"""The files of the package keep to what can be seen of the rules of LANGUAGE.md."""

import ast
import builtins
import pathlib
import re
import unittest

FOLDER = pathlib.Path(__file__).resolve().parent.parent / "slotsums"
LIBRARY = {"math": {"gcd", "lcm", "isqrt", "comb", "perm", "factorial"},
           "itertools": {"product", "combinations", "permutations"},
           "heapq": {"heappush", "heappop", "heapify", "heapreplace", "heappushpop"}}
METHODS = set("""append clear copy count endswith extend find get index insert isalnum isalpha isdigit islower isspace
isupper items join keys ljust lower lstrip partition pop remove replace reverse rfind rjust rpartition rsplit rstrip
setdefault split splitlines startswith strip update upper values zfill bit_length isascii removeprefix add
discard""".split())
MODIFYING = {"append", "clear", "extend", "insert", "pop", "remove", "reverse", "setdefault", "update"}
BUILTINS = set("""len range enumerate zip min max sum abs sorted reversed int str bool list tuple dict set isinstance
ord repr any all divmod ValueError LookupError RuntimeError property classmethod""".split())
DOUBLE = set("""__init__ __eq__ __repr__ __str__ __len__ __add__ __sub__ __mul__ __neg__""".split())
BARRED = set("""register mro elements open input law version_info with_traceback add_note attrgetter breakpoint builtins
compile copyright credits delattr dir eval exec exit gc getattr globals hasattr help id importlib license locals
methodcaller os quit setattr super type vars sys""".split())
WORDS = set("""type typing typing_extensions enum Enum IntEnum StrEnum Flag IntFlag Generic Protocol ABC ABCMeta
namedtuple NamedTuple TypedDict TYPE_CHECKING abstractmethod dataclass overload contextmanager""".split())
ALLOWED = (ast.Module, ast.Expr, ast.Constant, ast.ImportFrom, ast.alias, ast.ClassDef, ast.FunctionDef, ast.arguments,
           ast.arg, ast.Assign, ast.AugAssign, ast.Name, ast.Load, ast.Store, ast.Attribute, ast.Call, ast.keyword,
           ast.If, ast.For, ast.While, ast.Return, ast.Raise, ast.BoolOp, ast.And, ast.Or, ast.Not, ast.UnaryOp,
           ast.USub, ast.BinOp, ast.Add, ast.Sub, ast.Mult, ast.FloorDiv, ast.Mod, ast.Compare, ast.Eq, ast.NotEq,
           ast.Lt, ast.LtE, ast.Gt, ast.GtE, ast.Is, ast.IsNot, ast.In, ast.NotIn, ast.IfExp, ast.Tuple, ast.List,
           ast.Dict, ast.ListComp, ast.DictComp, ast.SetComp, ast.comprehension, ast.Subscript, ast.Slice,
           ast.Starred, ast.JoinedStr, ast.FormattedValue, ast.Lambda, ast.Break, ast.Continue, ast.Pass,
           ast.Yield, ast.LShift, ast.RShift, ast.BitAnd, ast.BitOr, ast.Try, ast.ExceptHandler)

YIELDING = {"partitions_of", "all_plans"}


def files():
    """All files of the package, as tuples (path, text, tree)."""
    found = []
    for path in sorted(FOLDER.rglob("*.py")):
        text = path.read_text(encoding="utf-8")
        found.append((path, text, ast.parse(text)))
    return found


def nodes(kind):
    """All nodes of a kind, as tuples (file name, node)."""
    return [(path.name, node) for path, text, tree in files() for node in ast.walk(tree) if isinstance(node, kind)]


class LanguageTest(unittest.TestCase):
    def test_files(self):
        """L1, L10, L14: names, sizes and characters."""
        for path, text, tree in files():
            self.assertRegex(path.stem, r"^[a-z0-9_]+$")
            lines = text.split("\n")
            self.assertLessEqual(len(lines) - 1, 399, path.name)
            self.assertTrue(all(len(line) <= 120 for line in lines), path.name)
            self.assertTrue(all(32 <= ord(sign) <= 126 or sign == "\n" for sign in text), path.name)
            self.assertNotIn("%" + '"', text)
        others = [path for path in FOLDER.rglob("*") if path.suffix not in (".py", ".pyc") and path.is_file()]
        self.assertEqual(others, [])

    def test_functions(self):
        """L10, L4: at most 40 lines, no nested functions, plain defaults, no annotations."""
        for name, node in nodes(ast.FunctionDef):
            where = f"{name} {node.name}"
            self.assertLessEqual(node.end_lineno - node.lineno + 1, 40, where)
            inner = [one for one in ast.walk(node) if isinstance(one, ast.FunctionDef) and one is not node]
            self.assertEqual(inner, [], where)
            for value in node.args.defaults:
                self.assertIsInstance(value, (ast.Constant, ast.Tuple), where)
            self.assertTrue(all(one.annotation is None for one in node.args.args), where)
            for mark in node.decorator_list:
                self.assertIn(ast.unparse(mark), ("property", "classmethod"), where)
            if node.name.startswith("__"):
                self.assertIn(node.name, DOUBLE, where)

    def test_syntax(self):
        """L6, L7, L19: only these kinds of statements and expressions; no generator expression, no set literal.

        A `try` catches own errors only, without a name for them.
        """
        for name, node in nodes(ast.AST):
            self.assertIsInstance(node, ALLOWED, f"{name} {getattr(node, 'lineno', '')}")
        for name, node in nodes(ast.Try):
            self.assertEqual((node.orelse, node.finalbody), ([], []), f"{name} {node.lineno}")
            self.assertEqual([(ast.unparse(one.type), one.name) for one in node.handlers], [("SlotsumsError", None)])
        for name, node in nodes(ast.AugAssign):
            self.assertIsInstance(node.value, ast.Constant, f"{name} {node.lineno}")
        for name, node in nodes(ast.Constant):
            self.assertNotIsInstance(node.value, (float, complex, bytes), f"{name} {node.lineno}")

    def test_imports(self):
        """L2, L15, L16: plain imports of what the named file defines, no name twice, and no circles."""
        imported = {}
        for path, text, tree in files():
            names = []
            for node in tree.body:
                if isinstance(node, ast.ImportFrom):
                    names.extend(one.name for one in node.names)
                    self.assertTrue(all(one.asname is None for one in node.names))
                    if node.module in LIBRARY:
                        self.assertLessEqual({one.name for one in node.names}, LIBRARY[node.module])
                        continue
                    self.assertTrue(node.module.startswith("slotsums."), path.name)
                    imported.setdefault(path.stem, []).append(node.module.split(".")[1])
                    source = ast.parse((FOLDER / (node.module.split(".")[1] + ".py")).read_text(encoding="utf-8"))
                    defined = {getattr(one, "name", None) for one in source.body}
                    defined |= {one.targets[0].id for one in source.body if isinstance(one, ast.Assign)}
                    self.assertLessEqual({one.name for one in node.names}, defined, path.name)
                elif isinstance(node, (ast.ClassDef, ast.FunctionDef)):
                    names.append(node.name)
                elif isinstance(node, ast.Assign):
                    names.append(node.targets[0].id)
            self.assertEqual(len(names), len(set(names)), path.name)
        done = []
        while imported:
            free = [name for name in imported if all(other in done or other not in imported for other in imported[name])]
            self.assertTrue(free, "files import from each other")
            for name in free:
                done.append(name)
                del imported[name]

    def test_all_imports_are_used(self):
        for path, text, tree in files():
            used = {node.id for node in ast.walk(tree) if isinstance(node, ast.Name)}
            for node in tree.body:
                if isinstance(node, ast.ImportFrom):
                    for one in node.names:
                        self.assertIn(one.name, used, path.name)

    def test_bound_names(self):
        """L8, L12, L15, L17: no local name is a builtin, a class or an import of its file, or barred."""
        for path, text, tree in files():
            known = {one.name for node in tree.body if isinstance(node, ast.ImportFrom) for one in node.names}
            known |= {node.name for node in tree.body if isinstance(node, ast.ClassDef)}
            for node in ast.walk(tree):
                names = []
                if isinstance(node, ast.arg):
                    names.append(node.arg)
                if isinstance(node, ast.Name) and isinstance(node.ctx, ast.Store):
                    names.append(node.id)
                if isinstance(node, (ast.FunctionDef, ast.ClassDef)) and node.name not in DOUBLE:
                    names.append(node.name)
                    self.assertFalse(node.name.startswith("__"))
                for name in names:
                    where = f"{path.name} {node.lineno} {name}"
                    self.assertFalse(hasattr(builtins, name) and isinstance(node, (ast.arg, ast.Name)), where)
                    self.assertNotIn(name, BARRED, where)
                    if not isinstance(node, (ast.FunctionDef, ast.ClassDef)):
                        self.assertNotIn(name, known, where)
                    self.assertIsNone(re.match(r"__|_(wall|pe_|dcw_|enum_|cm_|lay_|law_|stub_|sre)", name), where)

    def test_builtins(self):
        """L8, L22: only these builtins are read."""
        for name, node in nodes(ast.Name):
            if isinstance(node.ctx, ast.Load) and hasattr(builtins, node.id):
                self.assertIn(node.id, BUILTINS, f"{name} {node.lineno}")

    def test_words(self):
        """L17: barred words stand in docstrings and comments only."""
        for path, text, tree in files():
            for node in ast.walk(tree):
                for word in (getattr(node, "id", None), getattr(node, "attr", None), getattr(node, "name", None)):
                    self.assertNotIn(word, WORDS, path.name)

    def test_methods(self):
        """L25, L26: methods are own ones or allowed ones, and own ones have no name of a builtin value's."""
        own = {node.name for name, node in nodes(ast.FunctionDef)}
        taken = {name for value in ("", 0, [], {}, set(), b"", ()) for name in dir(value)} - DOUBLE
        for path, text, tree in files():
            for node in ast.walk(tree):
                if isinstance(node, ast.ClassDef):
                    for one in node.body:
                        if isinstance(one, ast.FunctionDef):
                            self.assertNotIn(one.name, taken, path.name)
                if isinstance(node, ast.Call) and isinstance(node.func, ast.Attribute):
                    self.assertIn(node.func.attr, own | METHODS, f"{path.name} {node.lineno}")

    def test_no_name_is_a_method_and_an_attribute(self):
        """L5, L18: so no property is assigned, by whatever object, nor by an error that an operator raises."""
        methods = {one.name for name, node in nodes(ast.ClassDef) for one in node.body if isinstance(one, ast.FunctionDef)}
        stored = {node.attr for name, node in nodes(ast.Attribute) if isinstance(node.ctx, ast.Store)}
        self.assertIn("name", stored)
        self.assertEqual(methods & stored, set())

    def run_by_operators(self):
        """All functions and methods that operators, properties and the like can call, by their names."""
        known, waiting = {}, []
        for name, node in nodes(ast.FunctionDef):
            known.setdefault(node.name, []).append(node)
            marks = [ast.unparse(mark) for mark in node.decorator_list]
            if node.name in DOUBLE - {"__init__"} or "property" in marks:
                waiting.append(node)
        for name, node in nodes(ast.ClassDef):
            own = [one for one in node.body if isinstance(one, ast.FunctionDef) and one.name == "__init__"]
            known.setdefault(node.name, []).extend(own)
        found = []
        while waiting:
            node = waiting.pop()
            if node not in found:
                found.append(node)
                calls = [one.func for one in ast.walk(node) if isinstance(one, ast.Call)]
                calls += [one.exc for one in ast.walk(node) if isinstance(one, ast.Raise) and isinstance(one.exc, ast.Name)]
                for one in calls:
                    waiting.extend(known.get(getattr(one, "id", None) or getattr(one, "attr", None), []))
        return found

    def test_operators(self):
        """L5, L28: an operator changes nothing but what it creates, and calls nothing that it is handed or holds."""
        run = self.run_by_operators()
        self.assertTrue({"__add__", "__init__", "check_tables", "with_number"} <= {node.name for node in run})
        for node in run:
            own = {one.targets[0].id for one in ast.walk(node) if isinstance(one, ast.Assign)
                   and isinstance(one.targets[0], ast.Name)
                   and isinstance(one.value, (ast.List, ast.Dict, ast.ListComp, ast.DictComp, ast.BinOp))}
            handed = {one.arg for one in node.args.args}
            for one in ast.walk(node):
                if isinstance(one, ast.Attribute) and isinstance(one.ctx, ast.Store):
                    self.assertEqual((node.name, one.value.id), ("__init__", "self"))
                if isinstance(one, ast.Subscript) and isinstance(one.ctx, ast.Store):
                    self.assertIn(one.value.id, own - handed, node.name)
                if isinstance(one, ast.Call) and isinstance(one.func, ast.Attribute) and one.func.attr in MODIFYING:
                    self.assertIn(one.func.value.id, own - handed, node.name)
                if isinstance(one, ast.Call) and isinstance(one.func, ast.Name):
                    self.assertNotIn(one.func.id, handed - {"cls"}, node.name)

    def test_generators(self):
        """L23: what yields is iterated on the spot, and nothing else has its name."""
        own = [node.name for name, node in nodes(ast.FunctionDef)]
        yielding = {node.name for name, node in nodes(ast.FunctionDef)
                    if any(isinstance(one, ast.Yield) for one in ast.walk(node))}
        self.assertEqual(yielding, YIELDING)
        self.assertTrue(all(own.count(name) == 1 for name in yielding))
        for path, text, tree in files():
            parents = {child: node for node in ast.walk(tree) for child in ast.iter_child_nodes(node)}
            for node in ast.walk(tree):
                if isinstance(node, ast.Name) and node.id in yielding:
                    call = parents[node]
                    self.assertIsInstance(call, ast.Call)
                    self.assertIs(call.func, node)
                    self.assertIsInstance(parents[call], (ast.For, ast.comprehension), f"{path.name} {node.lineno}")

    def test_stars(self):
        """L7: behind a star in a call stand names only."""
        for name, node in nodes(ast.Call):
            for value in node.args:
                if isinstance(value, ast.Starred):
                    self.assertIsInstance(value.value, (ast.Name, ast.Attribute), f"{name} {node.lineno}")

    def test_sets(self):
        """L24: sets stand in `sorted(..)` or `len(..)`, or are assigned once to a local name."""
        for path, text, tree in files():
            parents = {child: node for node in ast.walk(tree) for child in ast.iter_child_nodes(node)}
            for node in ast.walk(tree):
                is_call = isinstance(node, ast.Call) and isinstance(node.func, ast.Name) and node.func.id == "set"
                if is_call or isinstance(node, ast.SetComp):
                    parent = parents[node]
                    if isinstance(parent, ast.Call):
                        self.assertIn(parent.func.id, ("sorted", "len"), f"{path.name} {node.lineno}")
                    else:
                        self.assertIsInstance(parent, (ast.Assign, ast.Compare), f"{path.name} {node.lineno}")

    def test_views(self):
        """L23: zip, enumerate, range and views are iterated on the spot."""
        heads = {"list", "tuple", "dict", "sorted", "sum", "any", "all", "enumerate", "zip", "min", "max"}
        for path, text, tree in files():
            parents = {child: node for node in ast.walk(tree) for child in ast.iter_child_nodes(node)}
            for node in ast.walk(tree):
                if not isinstance(node, ast.Call):
                    continue
                word = node.func.id if isinstance(node.func, ast.Name) else node.func.attr
                if word in ("zip", "enumerate", "range", "reversed", "items", "keys", "values"):
                    parent = parents[node]
                    where = f"{path.name} {node.lineno}"
                    if isinstance(parent, ast.Call) and isinstance(parent.func, ast.Name):
                        self.assertIn(parent.func.id, heads | {"permutations"}, where)
                    else:
                        self.assertIsInstance(parent, (ast.For, ast.comprehension), where)

    def test_interface(self):
        """Each function and class of the interface is defined in its file, each method in its class."""
        listed = {
            "ratios": ["is_number", "Ratio"], "tables": ["Table"], "stores": ["Store"], "terms": ["Term"],
            "expressions": ["Expression"], "values": ["value_of", "value_at"],
            "products": ["product_of", "summed_over", "row_turned", "doubled_at", "held_equal", "spread_along"],
            "renamings": ["renaming_of", "is_renaming", "renaming_count"],
            "shapes": ["is_nought", "why_nought", "is_why_nought", "one_shape"], "forms": ["one_form", "are_alike"],
            "partitions": ["partitions_of", "quotient_of", "has_room"],
            "quotients": ["unlike_value", "shape_count", "unlike_form", "as_plain"],
            "sizes": ["alike_at", "least_unlike_sizes"], "differing": ["differing_store"],
            "relations": ["relation_base", "combination_of", "weights_against", "is_weights"],
            "maps": ["term_map", "is_map", "frozen_store"],
            "truth": ["answers_of", "contains", "least_escape_sizes", "escape_of"],
            "cores": ["core_of", "least_question", "are_equal_questions"],
            "plans": ["is_plan", "all_plans", "kept_names", "cost_of", "space_of"],
            "cheapest": ["cheapest_plan", "bound_table", "is_bound_table"],
            "slices": ["sliced_cost", "cheapest_sliced"], "runs": ["run_plan", "run_truth"],
            "polynomials": ["Polynomial", "sign_runs"],
            "every_size": ["cost_polynomial", "space_pieces", "best_plans", "is_best_plans", "changing_points",
                           "last_exponent"],
            "changes": ["difference_of", "all_differences", "changed_store"],
            "slopes": ["slope_of", "is_slope", "slope_run"],
            "zeros": ["nonzero_places", "mattering_classes", "nonzero_product", "is_nonzero_product", "nonzero_store",
                      "parting_stores"],
            "texts": ["table_text", "expression_text", "program_text", "read_table", "read_expression", "read_program"],
            "programs": ["Program", "put_in", "idle_definitions", "idle_tables", "first_difference"],
            "symmetries": ["own_turns"], "judge": ["is_claim", "is_certificate", "certificate_of"], "desk": ["Desk"],
        }
        members = {
            "Ratio": "top bottom sign over is_below total __add__ __sub__ __mul__ __neg__ __eq__ __str__ __repr__",
            "Table": "symmetric alternating changes_sign slots turns is_slot_places least class_of renamed __repr__",
            "Store": "sizes size tables entry entries with_entries",
            "Term": "number told factors names told_names lone_names sort_of sizes with_number",
            "Expression": "sorts terms tables all_sorts zero __add__ __sub__ __neg__ __mul__",
            "Program": "names definition tables", "Desk": "do do_all undo log tried",
            "Polynomial": "degree coefficients at __add__ __sub__ __mul__ __neg__ __eq__ __str__ __repr__",
        }
        self.assertLessEqual(set(listed), {path.stem for path, text, tree in files()})
        for path, text, tree in files():
            defined = {node.name: node for node in tree.body if isinstance(node, (ast.FunctionDef, ast.ClassDef))}
            for name in listed.get(path.stem, []):
                self.assertIn(name, defined)
                for method in members.get(name, "").split():
                    own = [one.name for one in defined[name].body if isinstance(one, ast.FunctionDef)]
                    self.assertIn(method, own)
