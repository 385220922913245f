"""The language of the program: those rules of ../shared/LANGUAGE.md that can be read off a syntax tree at once."""

import ast
import builtins
import pathlib
import unittest

PACKAGE = pathlib.Path(__file__).resolve().parent.parent / "goneunseen"
FILES = {path.relative_to(PACKAGE.parent).as_posix(): path.read_text() for path in sorted(PACKAGE.rglob("*.py"))}
TREES = {name: ast.parse(text) for name, text in FILES.items()}
BUILTINS = set(
    "len range enumerate zip min max sum abs sorted reversed int str bool bytes list tuple dict set isinstance ord repr any "
    "all divmod iter next super property classmethod staticmethod ValueError LookupError OverflowError TypeError".split())
METHODS = set(
    "append clear copy count endswith extend find get index insert isalnum isalpha isdigit islower isspace isupper items join "
    "keys ljust lower lstrip partition pop remove replace reverse rfind rjust rpartition rsplit rstrip setdefault split "
    "splitlines startswith strip update upper values zfill bit_length isascii isdecimal isprintable removeprefix removesuffix".split())


def nodes(*kinds):
    """All nodes of these kinds, with the names of their files."""
    return [(name, node) for name, tree in TREES.items() for node in ast.walk(tree) if isinstance(node, kinds)]


def properties_and_methods():
    found = {}
    for _, node in nodes(ast.ClassDef):
        for part in node.body:
            if isinstance(part, ast.FunctionDef):
                words = [ast.unparse(word) for word in part.decorator_list]
                is_property = "property" in words or f"{part.name}.setter" in words
                found.setdefault("property" if is_property else "method", set()).add(part.name)
    return found["property"], found["method"]


OPERATORS = set(
    "eq ne lt le gt ge str repr len bool contains getitem add sub mul rmul and or xor neg pos invert abs".split())
MODIFYING = set("append clear extend insert pop remove reverse setdefault update add discard sort".split())
MAKERS = {"list", "dict", "sorted"}


def functions():
    """All functions and methods by their bare names: lists of (file, function, the name of its class or None)."""
    found = {}
    for name, tree in TREES.items():
        inside = {id(part): node.name for node in ast.walk(tree) if isinstance(node, ast.ClassDef) for part in node.body}
        for node in ast.walk(tree):
            if isinstance(node, ast.FunctionDef):
                found.setdefault(node.name, []).append((name, node, inside.get(id(node))))
    return found


def quiet_functions():
    """What properties and operators run: they themselves, and all that has the bare name of something that they call."""
    known, classes = functions(), {node.name for _, node in nodes(ast.ClassDef)}
    quiet, queue = {}, []
    for name, places in known.items():
        for place in places:
            is_operator = name.startswith("__") and name.strip("_") in OPERATORS
            if is_operator or "property" in [ast.unparse(word) for word in place[1].decorator_list]:
                queue.append(place)
    while queue:
        place = queue.pop()
        if id(place[1]) in quiet:
            continue
        quiet[id(place[1])] = place
        for called in called_names(place[1]):
            if called in classes:
                queue += [other for other in known["__init__"] if other[2] == called]
            elif not called.startswith("__"):
                queue += known.get(called, ())
    return list(quiet.values())


def called_names(node):
    calls = [part.func for part in ast.walk(node) if isinstance(part, ast.Call)]
    return [func.id if isinstance(func, ast.Name) else func.attr for func in calls if isinstance(func, (ast.Name, ast.Attribute))]


def own_lists(node):
    """The local names that stand for nothing in a function but lists and dicts which it creates, each in a statement of its own.

    Parameters count, and what loops, comprehensions, handlers and nested functions bind, too.
    """
    kinds = {}
    for part in ast.walk(node):
        if isinstance(part, ast.Assign):
            value = part.value
            is_call = isinstance(value, ast.Call) and isinstance(value.func, ast.Name) and value.func.id in MAKERS
            is_own = is_call or isinstance(value, (ast.List, ast.Dict, ast.ListComp))
            for target in part.targets:
                if isinstance(target, ast.Name):
                    kinds.setdefault(target.id, []).append(is_own)
    bound = [part.id for part in ast.walk(node) if isinstance(part, ast.Name) and not isinstance(part.ctx, ast.Load)]
    for part in ast.walk(node):
        if isinstance(part, ast.arg):
            bound.append(part.arg)
        if isinstance(part, (ast.ExceptHandler, ast.FunctionDef)) and part.name is not None:
            bound.append(part.name)
    return {name for name, are_own in kinds.items() if all(are_own) and bound.count(name) == len(are_own)}


def same_lists(node):
    """For each name in a function those that can stand for the same list: they are assigned one another, also by a choice."""
    same = {}

    def join(first, second):
        both = same.get(first, {first}) | same.get(second, {second})
        for one in both:
            same[one] = both

    def plain_names(value):
        if isinstance(value, ast.Name):
            return [value.id]
        if isinstance(value, ast.Attribute):
            return [ast.unparse(value)]
        choices = [value.body, value.orelse] if isinstance(value, ast.IfExp) else value.values if isinstance(value, ast.BoolOp) else []
        return [one for choice in choices for one in plain_names(choice)]
    for part in ast.walk(node):
        if isinstance(part, ast.Assign):
            for target in part.targets:
                pairs = [(target, part.value)]
                if isinstance(target, ast.Tuple) and isinstance(part.value, ast.Tuple):
                    pairs = zip(target.elts, part.value.elts)
                for one, value in pairs:
                    for name in plain_names(one):
                        for other in plain_names(value):
                            join(name, other)
    return same


def walked_names(iterated):
    """The names whose lists or dicts a loop over this goes over, also through `zip`, `items` and the like or by a choice."""
    if isinstance(iterated, (ast.Name, ast.Attribute)):
        return [ast.unparse(iterated)]
    inner = []
    if isinstance(iterated, ast.IfExp):
        inner = [iterated.body, iterated.orelse]
    elif isinstance(iterated, ast.BoolOp):
        inner = iterated.values
    elif isinstance(iterated, ast.Call) and isinstance(iterated.func, ast.Name) and iterated.func.id in ("enumerate", "zip", "reversed"):
        inner = iterated.args
    elif isinstance(iterated, ast.Call) and isinstance(iterated.func, ast.Attribute) and iterated.func.attr in ("items", "keys", "values"):
        inner = [iterated.func.value]
    return [name for one in inner for name in walked_names(one)]


def changed_in_loops(node):
    """What a function changes in a loop that goes over it, by its own name or by another one."""
    same, found = same_lists(node), []
    for loop in ast.walk(node):
        walked, inside = [], []
        if isinstance(loop, ast.For):
            walked, inside = walked_names(loop.iter), loop.body
        elif isinstance(loop, (ast.ListComp, ast.SetComp, ast.DictComp)):
            walked, inside = [name for part in loop.generators for name in walked_names(part.iter)], [loop]
        barred = {other for name in walked for other in same.get(name, {name})}
        for part in [part for one in inside for part in ast.walk(one)]:
            target = None
            if isinstance(part, ast.Call) and isinstance(part.func, ast.Attribute) and part.func.attr in MODIFYING:
                target = part.func.value
            elif isinstance(part, ast.Subscript) and isinstance(part.ctx, (ast.Store, ast.Del)):
                target = part.value
            elif isinstance(part, ast.AugAssign):
                target = part.target
            if isinstance(target, (ast.Name, ast.Attribute)) and ast.unparse(target) in barred:
                found.append(part)
    return found


def changes(node, is_init):
    """What a function changes beside the lists and dicts that it creates, and what it calls that it is passed."""
    own, found = own_lists(node), []
    known = {arg.arg for arg in [*node.args.args, *node.args.kwonlyargs]}
    known |= {part.id for part in ast.walk(node) if isinstance(part, ast.Name) and isinstance(part.ctx, ast.Store)}
    for part in ast.walk(node):
        if isinstance(part, (ast.Attribute, ast.Subscript)) and isinstance(part.ctx, (ast.Store, ast.Del)):
            is_self = isinstance(part, ast.Attribute) and isinstance(part.value, ast.Name) and part.value.id == "self"
            is_own = isinstance(part, ast.Subscript) and isinstance(part.value, ast.Name) and part.value.id in own
            if not is_own and not (is_init and is_self):
                found.append(part)
        if isinstance(part, ast.AugAssign) and isinstance(part.target, ast.Name):
            if not (isinstance(part.value, ast.Constant) and isinstance(part.value.value, int)):
                found.append(part)
        if isinstance(part, ast.Call) and isinstance(part.func, ast.Attribute) and part.func.attr in MODIFYING:
            if not (isinstance(part.func.value, ast.Name) and part.func.value.id in own):
                found.append(part)
        if isinstance(part, ast.Call) and not isinstance(part.func, (ast.Name, ast.Attribute)):
            found.append(part)
        if isinstance(part, ast.Call) and isinstance(part.func, ast.Name) and part.func.id in known - {"cls"}:
            found.append(part)
        if isinstance(part, (ast.Yield, ast.YieldFrom, ast.Nonlocal)):
            found.append(part)
    return found


class Language(unittest.TestCase):
    def check(self, found):
        self.assertEqual([f"{name} row {node.lineno}: {ast.unparse(node)}" for name, node in found], [])

    def test_sizes_and_characters(self):
        for name, text in FILES.items():
            rows = text.split("\n")
            self.assertLessEqual(len(rows) - 1, 399, name)
            for index, row in enumerate(rows, 1):
                self.assertLessEqual(len(row), 120, f"{name} row {index}")
                self.assertTrue(all(" " <= letter <= "~" for letter in row), f"{name} row {index}")
        for name, node in nodes(ast.FunctionDef):
            self.assertLess(node.end_lineno - node.lineno, 40, f"{name} {node.name}")

    def test_properties_and_operators_change_nothing(self):
        self.check([
            (name, part) for name, node, owner in quiet_functions() for part in changes(node, node.name == "__init__")])

    def test_what_a_loop_goes_over_is_not_changed_in_it(self):
        self.check([(name, part) for name, node in nodes(ast.FunctionDef) for part in changed_in_loops(node)])

    def test_functions_have_names_of_their_own(self):
        # What a property or an operator calls is looked up by its bare name, over the whole package.
        for called, places in functions().items():
            if [place for place in places if place[2] is None]:
                self.assertEqual([place[0] for place in places[1:]], [], called)

    def test_no_name_has_two_meanings_in_a_file(self):
        for name, tree in TREES.items():
            known = {alias.asname or alias.name for node in ast.walk(tree) if isinstance(node, ast.ImportFrom) for alias in node.names}
            known |= {node.name for node in tree.body if isinstance(node, ast.ClassDef)}
            for node in ast.walk(tree):
                if isinstance(node, ast.arg):
                    self.assertNotIn(node.arg, known, f"{name} row {node.lineno}")
                if isinstance(node, ast.Name) and isinstance(node.ctx, (ast.Store, ast.Del)):
                    self.assertNotIn(node.id, known, f"{name} row {node.lineno}")

    def test_no_name_is_a_method_and_an_attribute(self):
        properties, methods = properties_and_methods()
        stored = {node.attr for _, node in nodes(ast.Attribute) if isinstance(node.ctx, ast.Store)}
        self.assertEqual(stored & (methods | properties), set())
        read = {node.attr for _, node in nodes(ast.Attribute) if isinstance(node.ctx, ast.Load)}
        values = {part.targets[0].id for _, node in nodes(ast.ClassDef) for part in node.body if isinstance(part, ast.Assign)}
        self.assertEqual(read - stored - methods - properties - values - METHODS - {"setter"}, set())

    def test_words_that_do_not_occur(self):
        barred = set(
            "type typing typing_extensions enum Enum IntEnum StrEnum Flag IntFlag Generic Protocol ABC ABCMeta namedtuple NamedTuple TypedDict abstractmethod".split())
        never = set("register mro elements open input law version_info with_traceback add_note".split())
        names = set(
            "attrgetter breakpoint builtins compile copyright credits delattr dir eval exec exit gc getattr globals hasattr help id importlib license locals methodcaller os "
            "quit setattr type vars sys _cold _tuplegetter _outside _record _written_out _member_names".split())
        for name, node in nodes(ast.Name, ast.arg, ast.FunctionDef, ast.ClassDef, ast.Attribute, ast.keyword):
            word = getattr(node, "id", None) or getattr(node, "arg", None) or getattr(node, "name", None) or getattr(node, "attr", None)
            self.assertNotIn(word, barred | never, name)
            if not isinstance(node, (ast.Attribute, ast.keyword)):
                self.assertNotIn(word, names, name)
            if word is not None and not (word.startswith("__") and word.endswith("__")):
                self.assertRegex(word, r"^(_|_?[A-Za-z][A-Za-z0-9_]*)$")
        for name, text in FILES.items():
            for word in ("_wall", "Meta", "metaclass=", "(type)", "dataclass", "overload", "contextmanager"):
                self.assertNotIn(word, text, name)

    def test_sets_stand_where_they_may(self):
        # Each set is made in the place where it is used up at once.
        parents = {id(child): parent for _, tree in TREES.items() for parent in ast.walk(tree) for child in ast.iter_child_nodes(parent)}
        for name, node in nodes(ast.Call, ast.SetComp, ast.Set):
            if isinstance(node, ast.Call) and not (isinstance(node.func, ast.Name) and node.func.id == "set"):
                continue
            above = parents[id(node)]
            is_used_up = isinstance(above, ast.Call) and isinstance(above.func, ast.Name) and above.func.id in ("sorted", "len") and not above.keywords
            self.assertTrue(is_used_up, f"{name} row {node.lineno}")

    def test_only_the_statements_that_are_allowed(self):
        kinds = (
            ast.Import, ast.Global, ast.Nonlocal, ast.AsyncFunctionDef, ast.AsyncFor, ast.AsyncWith, ast.Await, ast.NamedExpr, ast.Match, ast.Assert, ast.AnnAssign,
            ast.GeneratorExp)
        self.check(nodes(*kinds))
        for name, node in nodes(ast.FunctionDef):
            words = [ast.unparse(word) for word in node.decorator_list]
            self.assertIn(words, [[], ["property"], ["classmethod"], ["staticmethod"], [f"{node.name}.setter"]])

    def test_what_is_iterated_is_iterated_at_once(self):
        # zip, enumerate, reversed, range and the views of dicts stand behind `in`, or are the first argument of a call that goes over them.
        parents = {id(child): parent for _, tree in TREES.items() for parent in ast.walk(tree) for child in ast.iter_child_nodes(parent)}
        for name, node in nodes(ast.Call):
            plain = isinstance(node.func, ast.Name) and node.func.id in ("zip", "enumerate", "reversed", "range")
            view = isinstance(node.func, ast.Attribute) and node.func.attr in ("items", "keys", "values")
            if plain or view:
                above = parents[id(node)]
                goes = isinstance(above, (ast.For, ast.comprehension)) and above.iter is node
                call = isinstance(above, ast.Call) and isinstance(above.func, ast.Name) and above.args[0] is node
                self.assertTrue(goes or (call and above.func.id in ("list", "tuple", "dict", "sorted", "sum", "len", "enumerate")), f"{name} row {node.lineno}")

    def test_reversed_stands_over_lists(self):
        self.check([
            (name, node) for name, node in nodes(ast.Call) if isinstance(node.func, ast.Name) and node.func.id == "reversed"
            and not (isinstance(node.args[0], ast.Call) and node.args[0].func.id in ("list", "tuple", "sorted", "range"))])

    def test_behind_stars_stand_plain_things(self):
        properties, _ = properties_and_methods()

        def is_plain(part):
            if isinstance(part, ast.Attribute):
                return isinstance(part.value, ast.Name) and part.attr not in properties
            if isinstance(part, (ast.List, ast.Tuple)):
                return all(is_plain(one) for one in part.elts)
            return isinstance(part, (ast.Name, ast.Constant))
        for name, node in nodes(ast.Call):
            stars = [at for at, arg in enumerate(node.args) if isinstance(arg, ast.Starred)]
            doubles = [word for word in node.keywords if word.arg is None]
            if stars or doubles:
                parts = [arg.value if isinstance(arg, ast.Starred) else arg for arg in node.args[stars[0] if stars else 0:]]
                self.check([(name, part) for part in [*parts, *[word.value for word in node.keywords]] if not is_plain(part)])

    def test_no_property_is_passed_as_key(self):
        self.check([
            (name, node) for name, node in nodes(ast.Call) for word in node.keywords
            if word.arg == "key" and not isinstance(word.value, (ast.Name, ast.Lambda, ast.Constant))])

    def test_no_method_is_passed_on(self):
        properties, methods = properties_and_methods()
        self.assertEqual(properties & methods, set())
        called = {id(node.func) for _, node in nodes(ast.Call)}
        self.check([
            (name, node) for name, node in nodes(ast.Attribute)
            if isinstance(node.ctx, ast.Load) and node.attr in methods and id(node) not in called])

    def test_only_the_builtins_and_methods_that_are_allowed(self):
        _, methods = properties_and_methods()
        self.check([
            (name, node) for name, node in nodes(ast.Name) if hasattr(builtins, node.id) and node.id not in BUILTINS])
        self.check([
            (name, node) for name, node in nodes(ast.Call)
            if isinstance(node.func, ast.Attribute) and node.func.attr not in METHODS | methods])
        self.check([(name, node) for name, node in nodes(ast.Name) if isinstance(node.ctx, ast.Store) and hasattr(builtins, node.id)])
        self.check([(name, node) for name, node in nodes(ast.arg) if hasattr(builtins, node.arg)])

    def test_no_generator_expressions_and_no_floats(self):
        self.check(nodes(ast.GeneratorExp, ast.Div, ast.Global))
        self.check([(name, node) for name, node in nodes(ast.Constant) if isinstance(node.value, float)])
        self.check([(name, node) for name, node in nodes(ast.Constant) if isinstance(node.value, str) and "%" in node.value])

    def test_imports_name_the_file_that_defines_the_name(self):
        self.check(nodes(ast.Import))
        for name, node in nodes(ast.ImportFrom):
            path = node.module.replace(".", "/") + ".py"
            self.assertIn(path, TREES, f"{name} row {node.lineno}")
            defined = [part.name for part in TREES[path].body if isinstance(part, (ast.FunctionDef, ast.ClassDef))]
            for alias in node.names:
                self.assertIn(alias.name, defined, f"{name} row {node.lineno}")

    def test_no_two_files_import_from_each_other(self):
        imports = {name: set() for name in TREES}
        for name, node in nodes(ast.ImportFrom):
            imports[name].add(node.module.replace(".", "/") + ".py")
        while imports:
            ends = [name for name in imports if not imports[name] & set(imports)]
            self.assertNotEqual(ends, [], sorted(imports))
            for name in ends:
                del imports[name]

    def test_errors_are_raised_by_the_name_of_their_class(self):
        self.check([
            (name, node) for name, node in nodes(ast.Raise)
            if node.exc is not None and not (isinstance(node.exc, ast.Call) and isinstance(node.exc.func, ast.Name))])
        self.check([
            (name, node) for name, node in nodes(ast.ExceptHandler)
            if node.type is None or any(hasattr(builtins, word.id) for word in ast.walk(node.type) if isinstance(word, ast.Name))])


if __name__ == "__main__":
    unittest.main()
