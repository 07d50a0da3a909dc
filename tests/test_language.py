"""The package keeps to its subset of the language, as far as a look at the code tells."""

import ast
import builtins
import os
import re
import unittest

FOLDER = os.path.join(os.path.dirname(os.path.dirname(os.path.abspath(__file__))), "goneyet")
FILES = sorted(os.listdir(FOLDER))

INTERFACE = {
    "errors": ["GoneError", "BadDeed", "Wrong", "Untold", "NoText"],
    "forms": ["is_integer", "is_name", "is_need", "is_ground", "is_kind", "is_rulebook", "is_struck", "is_keeper", "is_told"],
    "rulebooks": [
        "kind_of", "need_at", "numbers_at", "kind_names", "places_of", "dead_grounds", "with_numbers", "with_kind", "without_kind",
        "joined_rulebooks", "led_rulebook",
    ],
    "texts": ["show_rulebook"],
    "reader": ["read_rulebook"],
    "net": ["Net"],
    "scripts": ["is_script", "played", "first_bad", "old_days", "old_moments", "show_script", "read_script"],
    "sorts": ["bearing_kinds", "clean_kinds", "able_kinds", "old_needs", "live_grounds", "forced_needs"],
    "rowlots": ["kinds_reached", "least_supports", "least_chokes"],
    "origins": ["clean_tree", "old_tree", "is_clean_tree", "is_old_tree", "levels_of"],
    "leasttable": ["last_making", "last_day", "told_by", "table_of"],
    "tablejudge": ["bars_makings", "first_unmet"],
    "papers": ["is_paper", "paper_of"],
    "freshnets": ["net_of", "maker_of"],
    "leads": ["never_kinds", "lead_ahead", "lead_bound", "is_backed"],
    "lots": ["is_held_up", "is_choice", "greatest_pairs", "ever_kinds", "lean_pairs", "choice_of"],
    "falling": ["falling", "is_falling"],
    "turning": ["turning_script"],
    "toldends": ["told_ends", "rise_of", "is_told_bound", "is_rise"],
    "longer": ["is_circle", "circle_of", "longer_kinds", "standing_script"],
    "classes": ["class_of", "all_classes", "class_paper", "is_class_paper"],
    "windows": ["is_threaded", "is_well_timed", "keeps_windows", "with_bars", "steps_of", "first_tells", "news_of"],
    "fleets": ["fleet_end", "endless_walk", "longest_walk", "are_heights", "heights_of"],
    "fleetnets": ["fleet_script"],
    "leastfleets": ["least_fleets", "least_bars"],
    "forgetting": ["gone_by", "with_forgetful", "greatest_forgetting", "least_harmful", "harm_script"],
    "lists": ["least_lists", "greatest_numbers", "paper_of_less"],
    "fromlog": ["is_log", "now_of", "latest_told", "latest_all"],
    "forward": ["clean_days", "forward_table", "forward_script"],
    "lastleft": ["last_left", "ever_days"],
    "cleaning": ["left_with", "least_cleaning"],
    "changed": ["fresh_from", "old_table", "last_old"],
    "mixing": ["old_days_in", "gaps_in", "mixed_days_in", "struck_days_in", "changed_script"],
    "book": ["Book"],
    "desk": ["Desk"],
}
CLASS_METHODS = {
    "Net": [
        "dawn", "tell", "make", "clean", "tell_due", "lists_now", "news_now", "deeds_done", "day_now", "is_morning", "answers_now",
        "barred_now", "undo", "copied", "__eq__", "__init__",
    ],
    "Book": ["do", "rulebook_now", "struck_now", "undo", "wishes_now", "deeds_done", "copied", "__eq__", "__init__"],
    "Desk": ["execute", "book", "__init__"],
}

BUILTINS = set("""len range enumerate zip min max sum abs sorted reversed int str bool list tuple dict set isinstance ord repr any all
divmod ValueError KeyError IndexError LookupError""".split())
METHODS = set("""append clear copy count endswith extend find get index insert isalnum isalpha isdigit islower isspace isupper items join keys
ljust lower lstrip partition pop remove replace reverse rfind rjust rpartition rsplit rstrip setdefault split splitlines startswith strip update
upper values zfill bit_length""".split())
# Some tests let Python put `_` among its builtins.
NAMES = [name for name in dir(builtins) if name != "_"]
BUILTIN_ATTRIBUTES = {name for one in (0, "", b"", [], (), {}, set()) for name in dir(one)}
CHANGING = set("append clear extend insert pop remove reverse setdefault update".split())
BARRED_WORDS = set("""type typing typing_extensions enum Enum IntEnum StrEnum Flag IntFlag Generic Protocol ABC ABCMeta namedtuple NamedTuple
TypedDict TYPE_CHECKING abstractmethod register mro elements open input law version_info with_traceback add_note""".split())


def trees():
    for name in FILES:
        with open(os.path.join(FOLDER, name), encoding="utf-8") as file:
            text = file.read()
        yield name[:-3], text, ast.parse(text)


def functions(tree):
    return [node for node in ast.walk(tree) if isinstance(node, ast.FunctionDef)]


def methods_of(many):
    """The names of the methods that the classes of some trees define."""
    made = [node for tree in many for node in ast.walk(tree) if isinstance(node, ast.ClassDef)]
    return {node.name for one in made for node in one.body if isinstance(node, ast.FunctionDef)}


def fields_of(many):
    """The names of the attributes that some trees assign."""
    return {node.attr for tree in many for node in ast.walk(tree) if isinstance(node, ast.Attribute) and isinstance(node.ctx, ast.Store)}


def own_keys(tree, methods):
    """What stands as key= of sorted, min or max and is an own method by its name alone: there a method may stand uncalled."""
    calls = [node for node in ast.walk(tree) if isinstance(node, ast.Call) and getattr(node.func, "id", "") in ("sorted", "min", "max")]
    keys = [word.value for call in calls for word in call.keywords if word.arg == "key"]
    return [key for key in keys if isinstance(key, ast.Attribute) and key.attr in methods - BUILTIN_ATTRIBUTES]


def in_class_scope(tree):
    """What is computed in the bodies of classes themselves, not in their methods."""
    for made in [node for node in ast.walk(tree) if isinstance(node, ast.ClassDef)]:
        for node in made.body:
            parts = [node]
            if isinstance(node, ast.FunctionDef):
                parts = node.args.defaults + [default for default in node.args.kw_defaults if default is not None] + node.decorator_list
            for part in parts:
                yield from ast.walk(part)


def uncalled_methods(tree, methods, fields):
    """The ascending list of the (row, code) at which a method of an object is named without being called.

    What is read off an object and not called has to be a field that some class
    assigns. A field that is called as a method of a builtin value is (`index`)
    is read off `self` and off caught errors alone, where no other value stands.
    """
    called = [node.func for node in ast.walk(tree) if isinstance(node, ast.Call)] + own_keys(tree, methods)
    objects = {"self"} | {node.name for node in ast.walk(tree) if isinstance(node, ast.ExceptHandler)}
    found = []
    for node in ast.walk(tree):
        if isinstance(node, ast.Attribute) and isinstance(node.ctx, ast.Load) and node not in called:
            is_field = node.attr in fields - methods
            if node.attr in BUILTIN_ATTRIBUTES:
                is_field = is_field and isinstance(node.value, ast.Name) and node.value.id in objects
            if not is_field:
                found.append((node.lineno, ast.unparse(node)))
    for node in in_class_scope(tree):
        if isinstance(node, ast.Name) and isinstance(node.ctx, ast.Load) and node.id in methods:
            found.append((node.lineno, node.id))
    return sorted(found)


def bound_names(function):
    """Parameters and variables of a function."""
    names = {arg.arg for arg in function.args.args}
    return names | {node.id for node in ast.walk(function) if isinstance(node, ast.Name) and isinstance(node.ctx, (ast.Store, ast.Del))}


class LanguageTest(unittest.TestCase):
    def each(self, kind):
        for name, _, tree in trees():
            for node in ast.walk(tree):
                if isinstance(node, kind):
                    yield f"{name}:{getattr(node, 'lineno', 0)}", node

    def test_files(self):
        for name in FILES:
            self.assertRegex(name, r"^[a-z_]+\.py$")
        self.assertIn("__init__.py", FILES)

    def test_the_readme_names_each_file(self):
        with open(os.path.join(os.path.dirname(FOLDER), "README.md"), encoding="utf-8") as file:
            text = file.read()
        for name in FILES:
            self.assertIn(f"`goneyet.{name[:-3]}`", text)

    def test_sizes_and_characters(self):
        for name, text, tree in trees():
            lines = text.split("\n")
            self.assertLessEqual(len(lines), 399, name)
            self.assertTrue(all(len(line) <= 120 for line in lines), name)
            self.assertTrue(all(sign == "\n" or " " <= sign <= "~" for sign in text), name)
            self.assertTrue(text.endswith("\n") and not any(line.endswith(" ") for line in lines), name)
            for function in functions(tree):
                self.assertLessEqual(function.end_lineno - function.lineno + 1, 40, (name, function.name))

    def test_module_level(self):
        for name, _, tree in trees():
            self.assertIsInstance(tree.body[0], ast.Expr)
            bound = []
            for node in tree.body[1:]:
                self.assertIsInstance(node, (ast.ImportFrom, ast.FunctionDef, ast.ClassDef, ast.Assign), name)
                if isinstance(node, ast.ImportFrom):
                    bound += [alias.name for alias in node.names]
                elif isinstance(node, ast.Assign):
                    self.assertEqual(len(node.targets), 1)
                    # A table may have functions that are defined above it.
                    parts = node.value.values if isinstance(node.value, ast.Dict) else []
                    if not parts or not all(isinstance(part, ast.Name) and part.id in bound for part in parts):
                        ast.literal_eval(node.value)
                    bound.append(node.targets[0].id)
                else:
                    bound.append(node.name)
            self.assertEqual(len(bound), len(set(bound)), name)

    def test_imports_are_of_the_package_and_used(self):
        defined = {name: {getattr(node, "name", None) or node.targets[0].id for node in tree.body if isinstance(node, (ast.FunctionDef, ast.ClassDef, ast.Assign))} for name, _, tree in trees()}
        imports = {name: set() for name in defined}
        for name, text, tree in trees():
            for node in ast.walk(tree):
                self.assertNotIsInstance(node, ast.Import)
                if isinstance(node, ast.ImportFrom):
                    self.assertIn(node, tree.body)
                    package, _, file = node.module.partition(".")
                    self.assertEqual((package, node.level), ("goneyet", 0))
                    imports[name].add(file)
                    for alias in node.names:
                        self.assertIsNone(alias.asname)
                        self.assertIn(alias.name, defined[file])
                        self.assertGreater(len(re.findall(rf"\b{alias.name}\b", text)), 1, (name, alias.name))
        left = dict(imports)
        while left:
            free = [name for name in left if not left[name] & set(left)]
            self.assertTrue(free, left)
            for name in free:
                del left[name]

    def test_the_interface_is_defined_in_its_files(self):
        self.assertTrue(set(INTERFACE) <= {name[:-3] for name in FILES})
        for name, text, tree in trees():
            defined = [node.name for node in tree.body if isinstance(node, (ast.FunctionDef, ast.ClassDef))]
            for wanted in INTERFACE.get(name, []):
                self.assertIn(wanted, defined)
            for made in [node for node in tree.body if isinstance(node, ast.ClassDef) and name != "errors"]:
                methods = [node.name for node in made.body if isinstance(node, ast.FunctionDef)]
                self.assertTrue(set(CLASS_METHODS.get(made.name, [])) <= set(methods))
                self.assertEqual(len(methods), len(set(methods)))

    def test_statements_and_expressions_that_are_not_used(self):
        barred = (
            ast.Global, ast.AsyncFunctionDef, ast.Await, ast.GeneratorExp, ast.Yield, ast.YieldFrom, ast.Lambda, ast.With, ast.NamedExpr, ast.Match,
            ast.AnnAssign, ast.Div, ast.Starred, ast.Set, ast.SetComp, ast.Nonlocal, ast.Delete,
        )
        for where, node in self.each(barred):
            # A star stands in zip(*lists) alone.
            self.assertTrue(isinstance(node, ast.Starred) and isinstance(node.value, ast.Name), where)
        for where, node in self.each((ast.FunctionDef, ast.ClassDef)):
            self.assertEqual(node.decorator_list, [], where)
        for where, node in self.each(ast.Constant):
            self.assertIsInstance(node.value, (int, str, type(None)), where)
            if isinstance(node.value, str):
                self.assertNotIn("%", node.value, where)

    def test_own_errors_alone_are_caught(self):
        errors = {node.name for name, _, tree in trees() if name == "errors" for node in tree.body if isinstance(node, ast.ClassDef)}
        for where, node in self.each(ast.ExceptHandler):
            self.assertIn(node.type.id, errors, where)
        for where, node in self.each(ast.Raise):
            self.assertTrue(node.exc is None or isinstance(node.exc, ast.Call), where)

    def test_names(self):
        for name, text, tree in trees():
            imported = {alias.name for node in tree.body if isinstance(node, ast.ImportFrom) for alias in node.names}
            classes = {node.name for node in tree.body if isinstance(node, ast.ClassDef)}
            for function in functions(tree):
                bound = bound_names(function) | {function.name}
                self.assertFalse(bound & set(NAMES), (name, function.name))
                local = bound_names(function) | {inner.name for inner in functions(function) if inner is not function}
                self.assertFalse(local & (imported | classes), (name, function.name))
                self.assertFalse(bound & BARRED_WORDS, (name, function.name))
                for word in bound:
                    self.assertRegex(word, r"^(_|_?[a-zA-Z][a-zA-Z0-9_]*|__init__|__eq__)$")
                    self.assertFalse(re.match(r"_(wall|pe_|dcw_|enum_|cm_|twin_re_|lay_|law_|stub_|sre)", word))
            for made in classes:
                self.assertRegex(made, r"^[A-Z]")
            code = re.sub(r'"""(.|\n)*?"""|#.*', "", text)
            self.assertFalse(set(re.findall(r"[A-Za-z_]+", code)) & BARRED_WORDS, name)

    def test_underscore_is_never_read(self):
        for where, node in self.each(ast.Name):
            self.assertFalse(node.id == "_" and isinstance(node.ctx, ast.Load), where)

    def test_builtins_methods_and_keywords(self):
        own = {function.name for _, _, tree in trees() for function in functions(tree)}
        classes = {node.name for _, _, tree in trees() for node in tree.body if isinstance(node, ast.ClassDef)}
        for name, _, tree in trees():
            for node in ast.walk(tree):
                if isinstance(node, ast.Name) and node.id in NAMES:
                    self.assertIn(node.id, BUILTINS, (name, node.lineno))
                if isinstance(node, ast.Call):
                    where = (name, node.lineno)
                    if isinstance(node.func, ast.Attribute):
                        self.assertIn(node.func.attr, METHODS | own, where)
                        self.assertEqual(node.keywords, [], where)
                    elif isinstance(node.func, ast.Name) and node.func.id not in own | classes:
                        self.assertTrue(all(word.arg in ("key", "reverse", "default", "start") for word in node.keywords), where)

    def test_is_stands_beside_none_true_and_false(self):
        for where, node in self.each(ast.Compare):
            for operator, other in zip(node.ops, node.comparators):
                if isinstance(operator, (ast.Is, ast.IsNot)):
                    self.assertTrue(isinstance(other, ast.Constant) and other.value in (None, True, False), where)

    def test_sets_stand_in_sorted_and_len_alone(self):
        for name, _, tree in trees():
            inner = [arg for node in ast.walk(tree) if isinstance(node, ast.Call) and getattr(node.func, "id", "") in ("sorted", "len") for arg in node.args]
            for node in ast.walk(tree):
                if isinstance(node, ast.Call) and getattr(node.func, "id", "") == "set":
                    self.assertIn(node, inner, (name, node.lineno))

    def test_what_is_iterated_over_is_not_changed(self):
        for where, node in self.each(ast.For):
            read = {ast.unparse(part) for part in ast.walk(node.iter) if isinstance(part, (ast.Name, ast.Attribute))}
            for part in ast.walk(node):
                if isinstance(part, ast.Call) and isinstance(part.func, ast.Attribute) and part.func.attr in CHANGING:
                    self.assertNotIn(ast.unparse(part.func.value), read, where)
                if isinstance(part, ast.Subscript) and isinstance(part.ctx, (ast.Store, ast.Del)):
                    self.assertNotIn(ast.unparse(part.value), read, where)

    def test_eager_functions_take_lists(self):
        # zip and its like are iterated at once; any and all take lists.
        for where, node in self.each(ast.Call):
            if getattr(node.func, "id", "") in ("any", "all"):
                self.assertIsInstance(node.args[0], ast.ListComp, where)
        for where, node in self.each((ast.Assign, ast.Return)):
            if isinstance(node.value, ast.Call):
                self.assertNotIn(getattr(node.value.func, "id", ""), ("zip", "enumerate", "reversed", "range", "map"), where)

    def test_special_methods(self):
        for where, node in self.each(ast.FunctionDef):
            if node.name.startswith("__"):
                self.assertIn(node.name, ("__init__", "__eq__"), where)
            if node.name == "__init__":
                self.assertFalse(any(isinstance(part, ast.Return) for part in ast.walk(node)), where)


class MethodsTest(unittest.TestCase):
    """L25: a method is called where it stands, never handed on."""

    # A class and a caught error, so that each way to name a method has something to name.
    FRAME = """
class Bad(ValueError):
    def __init__(self, index):
        self.index = index

class Box:
    def __init__(self, rows):
        self.rows = rows

    def told(self, day):
        return self.rows[day]

    def all_told(self):
        return [self.told(0)]
"""

    def found_in(self, rows, frame=FRAME):
        """The code of what is found uncalled if these rows stand behind the frame."""
        tree = ast.parse(frame + rows)
        return [code for _, code in uncalled_methods(tree, methods_of([tree]), fields_of([tree]))]

    def test_the_package_calls_each_method_where_it_stands(self):
        package = {name: tree for name, _, tree in trees()}
        methods, fields = methods_of(package.values()), fields_of(package.values())
        self.assertLessEqual({"choices_on", "dawn", "copied", "execute"}, methods)
        found = [(name, row, code) for name in package for row, code in uncalled_methods(package[name], methods, fields)]
        self.assertEqual(found, [])

    def test_methods_that_are_handed_on_are_found(self):
        for rows in (
            "def f(box):\n    return led_by(box.told, 3)\n",
            "def f(box):\n    return led_by(3, lead=box.told)\n",
            "def f(box):\n    return led_by(*box.told)\n",
            "def f(box):\n    told = box.told\n    return told(3)\n",
            "def f(box):\n    box.rows = box.told\n",
            "def f(box):\n    return box.told\n",
            "def f(box):\n    return [(1, box.told)]\n",
            "def f(box):\n    return {1: box.told}\n",
            "def f(box):\n    return (box.told if box.rows else len)(3)\n",
            "def f(box):\n    if box.told:\n        return 1\n",
            "def f(box):\n    return box.told(1) == box.told\n",
            "def f(box):\n    return f'{box.told}'\n",
            "def f(box):\n    def g():\n        return box.told\n    return g()\n",
            "def f(box):\n    return lambda: box.told\n",
            "def f(box, many):\n    return sorted(many, reverse=box.told)\n",
            "def f(box, many):\n    return sorted(many, key=(box.told, 1))\n",
            "def f(box, many):\n    return led_by(many, key=box.told)\n",
        ):
            self.assertEqual(self.found_in(rows), ["box.told"], rows)
        self.assertEqual(self.found_in("def f(boxes):\n    return led_by(boxes[0].told)\n"), ["boxes[0].told"])
        self.assertEqual(self.found_in("def f(rows):\n    return led_by(Box(rows).told)\n"), ["Box(rows).told"])
        self.assertEqual(self.found_in("def f():\n    return Box.told\n"), ["Box.told"])
        self.assertEqual(self.found_in("    def kept(self):\n        return led_by(self.told)\n"), ["self.told"])

    def test_methods_that_are_kept_in_a_class_are_found(self):
        self.assertEqual(self.found_in("    again = told\n"), ["told"])
        self.assertEqual(self.found_in("    BOTH = (told, all_told)\n"), ["all_told", "told"])
        self.assertEqual(self.found_in("    def led(self, lead=told):\n        return lead(self, 3)\n"), ["told"])
        self.assertEqual(self.found_in("    def led(self, *, lead=told):\n        return lead(self, 3)\n"), ["told"])

    def test_methods_of_builtin_values_are_found(self):
        for word in ("append", "get", "index", "items", "join", "split", "upper", "__len__"):
            self.assertEqual(self.found_in(f"def f(rows):\n    return led_by(rows.{word})\n"), [f"rows.{word}"])
            self.assertEqual(self.found_in(f"def f(rows):\n    return sorted(rows, key=rows.{word})\n"), [f"rows.{word}"])
        self.assertEqual(self.found_in("def f():\n    return led_by(' '.join)\n"), ["' '.join"])
        self.assertEqual(self.found_in("    def led(self):\n        return led_by(self.rows.append)\n"), ["self.rows.append"])

    def test_what_is_no_such_thing_is_not_found(self):
        for rows in (
            "",
            "def f(box):\n    return box.told(3) + (box.told)(4)\n",
            "def f(boxes):\n    return [box.told(at) for at, box in enumerate(boxes)]\n",
            "def f(box):\n    return led_by(box.told(3), box.rows, box.rows.copy(), box.all_told())\n",
            "def f(box):\n    def told(day):\n        return box.told(day)\n    return led_by(told)\n",
            "def f(box):\n    told = box.rows\n    return told\n",
            "def f(box, many):\n    return sorted(many, key=box.told) + [max(many, key=box.told), min(many, key=box.told)]\n",
            "def f(box):\n    try:\n        box.told(3)\n    except Bad as bad:\n        return bad.index\n",
            "class Other(Box):\n    def named(self, told):\n        return led_by(told)\n",
        ):
            self.assertEqual(self.found_in(rows), [], rows)

    def test_a_name_that_is_a_field_elsewhere_is_a_method_all_the_same(self):
        rows = "class Other:\n    def __init__(self, told):\n        self.told = told\n\ndef f(box):\n    return led_by(box.told)\n"
        self.assertEqual(self.found_in(rows), ["box.told"])
        self.assertEqual(self.found_in("def f(box):\n    return led_by(box.telling)\n"), ["box.telling"])
