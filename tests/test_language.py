"""The interface of [24], and what a program can see of the rules of the language: their numbers stand in brackets."""

import ast
import builtins
import os
import re
import unittest

HERE = os.path.dirname(os.path.abspath(__file__))
FOLDER = os.path.join(os.path.dirname(HERE), "likecuts")
LIBRARY = {"math": ("gcd", "lcm", "isqrt", "comb", "perm", "factorial"), "heapq": ("heappush", "heappop"),
           "itertools": ("product", "combinations", "permutations")}
CALLED = {"len", "range", "enumerate", "zip", "min", "max", "sum", "abs", "sorted", "reversed", "int", "str", "bool",
          "list", "tuple", "dict", "set", "isinstance", "ord", "repr", "any", "all", "divmod", "map"}
ERRORS = {"Exception", "ValueError", "TypeError", "KeyError", "IndexError", "LookupError"}
METHODS = {"append", "clear", "copy", "count", "endswith", "extend", "find", "get", "index", "insert", "isdigit", "items",
           "join", "keys", "partition", "pop", "remove", "removeprefix", "replace", "reverse", "setdefault", "split",
           "splitlines", "startswith", "strip", "update", "values", "add", "__init__"}
UNUSED = {"register", "mro", "elements", "open", "input", "law", "version_info", "dir", "eval", "exec", "exit", "gc",
          "id", "os", "quit", "super", "vars", "type", "help", "compile", "locals", "globals"}
NODES = (ast.Global, ast.AsyncFunctionDef, ast.Await, ast.Div, ast.Lambda, ast.JoinedStr)


def sources():
    """The files of the package: name, text, tree."""
    for name in sorted(os.listdir(FOLDER)):
        if name != "__pycache__":
            with open(os.path.join(FOLDER, name), encoding="ascii") as file:
                text = file.read()
            yield name, text, ast.parse(text)


def bound_names(tree):
    """All names that a file binds: functions, classes, parameters, variables."""
    for node in ast.walk(tree):
        if isinstance(node, (ast.FunctionDef, ast.ClassDef)):
            yield node.name
        elif isinstance(node, ast.arg):
            yield node.arg
        elif isinstance(node, ast.Name) and isinstance(node.ctx, ast.Store):
            yield node.id


def is_plain(node, names):
    """Whether an expression is a literal: a number, a string, or a tuple, a list, a dict of such, or of these names."""
    if isinstance(node, ast.Dict) and all(isinstance(own, ast.Name) for own in node.values):
        return all(own.id in names for own in node.values) and all(is_plain(own, ()) for own in node.keys)
    try:
        ast.literal_eval(node)
    except ValueError:
        return False
    return True


class Language(unittest.TestCase):
    def test_files(self):
        for name, text, _ in sources():
            self.assertRegex(name, r"^[a-z_]+\.py$")
            lines = text.split("\n")
            self.assertLess(len(lines), 401, f"{name} [L10]")
            self.assertLessEqual(max(len(line) for line in lines), 120, f"{name} [L10]")
            self.assertNotRegex(text, r"[^ -~\n]", f"{name} [L14]")

    def test_functions_are_short(self):
        for name, _, tree in sources():
            for node in ast.walk(tree):
                if isinstance(node, ast.FunctionDef):
                    self.assertLessEqual(node.end_lineno - node.lineno + 1, 40, f"{name} {node.name} [L10]")
                    self.assertEqual(node.decorator_list, [], f"{name} {node.name} [L4]")
                    self.assertTrue(ast.get_docstring(node) or node.name == "__init__", f"{name} {node.name}")

    def test_module_level(self):
        for name, _, tree in sources():
            self.assertTrue(ast.get_docstring(tree), name)
            for node in tree.body[1:]:
                self.assertIsInstance(node, (ast.ImportFrom, ast.FunctionDef, ast.ClassDef, ast.Assign), f"{name} [L3]")
                if isinstance(node, ast.Assign):
                    above = [own.name for own in tree.body
                             if isinstance(own, ast.FunctionDef) and own.lineno < node.lineno]
                    self.assertTrue(is_plain(node.value, above) and len(node.targets) == 1, f"{name}:{node.lineno} [L3]")
            bound = [own.name for own in tree.body if isinstance(own, (ast.FunctionDef, ast.ClassDef))]
            bound += [own.targets[0].id for own in tree.body if isinstance(own, ast.Assign)]
            bound += [alias.name for own in tree.body if isinstance(own, ast.ImportFrom) for alias in own.names]
            self.assertEqual(len(bound), len(set(bound)), f"{name} [L15]")

    def test_imports(self):
        defined, asked = {}, {}
        for name, _, tree in sources():
            defined[name[:-3]] = {own.name for own in tree.body if isinstance(own, (ast.FunctionDef, ast.ClassDef))}
            defined[name[:-3]] |= {own.targets[0].id for own in tree.body if isinstance(own, ast.Assign)}
            asked[name[:-3]] = [own for own in ast.walk(tree) if isinstance(own, (ast.Import, ast.ImportFrom))]
        for name, nodes in asked.items():
            for node in nodes:
                self.assertIsInstance(node, ast.ImportFrom, f"{name} [L16]")
                self.assertEqual(node.level, 0, f"{name} [L2]")
                for alias in node.names:
                    self.assertIsNone(alias.asname, f"{name} [L2]")
                    known = LIBRARY.get(node.module) or defined[node.module.removeprefix("likecuts.")]
                    self.assertIn(alias.name, known, f"{name} [L2] [L16]")
        self.no_rings({name: [node.module[9:] for node in nodes if node.module.startswith("likecuts.")]
                       for name, nodes in asked.items()})

    def no_rings(self, asked):
        left = dict(asked)
        while left:
            free = [name for name in left if not any(own in left for own in left[name])]
            self.assertTrue(free, f"{sorted(left)} [L16]")
            left = {name: left[name] for name in left if name not in free}

    def test_imports_are_used(self):
        for name, text, tree in sources():
            used = {node.id for node in ast.walk(tree) if isinstance(node, ast.Name)}
            for node in tree.body:
                if isinstance(node, ast.ImportFrom):
                    for alias in node.names:
                        self.assertIn(alias.name, used, name)

    def test_names(self):
        for name, text, tree in sources():
            imported = {alias.name for own in tree.body if isinstance(own, ast.ImportFrom) for alias in own.names}
            imported |= {own.name for own in tree.body if isinstance(own, ast.ClassDef)}
            inner = {node.arg for node in ast.walk(tree) if isinstance(node, ast.arg)}
            for own in tree.body:
                if isinstance(own, ast.FunctionDef):
                    inner |= {node.id for node in ast.walk(own)
                              if isinstance(node, ast.Name) and isinstance(node.ctx, ast.Store)}
            self.assertEqual(imported & inner, set(), f"{name} [L15]")
            for own in bound_names(tree):
                self.assertNotIn(own, dir(builtins) if own != "__init__" else (), f"{name} [L15]")
                self.assertNotIn(own, UNUSED, f"{name} [L17]")
                self.assertTrue(own in ("_", "__init__") or re.match(r"[A-Za-z][A-Za-z0-9_]*$", own), f"{name} [L12]")
            loaded = {node.id for node in ast.walk(tree)
                      if isinstance(node, ast.Name) and isinstance(node.ctx, ast.Load)}
            self.assertLessEqual(loaded & set(dir(builtins)), CALLED | ERRORS, f"{name} [L8]")
            self.assertNotIn("_", loaded, f"{name} [L12]")
            module_names = {own.targets[0].id for own in tree.body if isinstance(own, ast.Assign)}
            self.assertEqual(module_names & inner, set(), name)

    def test_nodes(self):
        own_methods = {node.name for _, _, tree in sources() for own in tree.body if isinstance(own, ast.ClassDef)
                       for node in own.body if isinstance(node, ast.FunctionDef)}
        for name, _, tree in sources():
            for node in ast.walk(tree):
                place = f"{name}:{getattr(node, 'lineno', 0)}"
                self.assertFalse(isinstance(node, NODES[:4]), f"{place} [L6] [L7]")
                if isinstance(node, ast.Constant):
                    self.assertFalse(isinstance(node.value, (float, complex, bytes)), f"{place} [L7]")
                    if isinstance(node.value, str):
                        self.assertNotIn("%", node.value, f"{place} [L27]")
                if isinstance(node, ast.Compare) and any(isinstance(own, (ast.Is, ast.IsNot)) for own in node.ops):
                    self.assertTrue(all(isinstance(own, ast.Constant) for own in node.comparators), f"{place} [L20]")
                if isinstance(node, ast.Call) and isinstance(node.func, ast.Attribute):
                    self.assertIn(node.func.attr, METHODS | own_methods, f"{place} [L25]")
                if isinstance(node, ast.Call) and any(isinstance(own, ast.Starred) for own in node.args):
                    beside = [own.value if isinstance(own, ast.Starred) else own for own in node.args]
                    self.assertTrue(all(isinstance(own, ast.Name) for own in beside), f"{place} [L7]")
                if isinstance(node, (ast.Set, ast.SetComp)):
                    self.fail(f"{place}: no set is written here [L24]")
                if isinstance(node, ast.Raise):
                    self.assertIsInstance(node.exc, ast.Call, f"{place} [L19]")

    def test_sets_are_at_once_sorted_or_counted(self):
        for name, _, tree in sources():
            calls = [node for node in ast.walk(tree) if isinstance(node, ast.Call)]
            within = [own for call in calls if isinstance(call.func, ast.Name) and call.func.id in ("sorted", "len")
                      and not call.keywords for own in call.args]
            for call in calls:
                if isinstance(call.func, ast.Name) and call.func.id == "set":
                    self.assertIn(call, within, f"{name}:{call.lineno} [L24]")


class Interface(unittest.TestCase):
    def test_names_and_arguments(self):
        trees = {name[:-3]: tree for name, _, tree in sources()}
        with open(os.path.join(HERE, "interface.txt"), encoding="ascii") as file:
            rows = file.read().splitlines()
        for row in rows:
            module, told = row.split(": ")
            defined = {node.name: node for node in trees[module].body
                       if isinstance(node, (ast.FunctionDef, ast.ClassDef))}
            for name, arguments in re.findall(r"(\w+)\(([^)]*)\)", told):
                node = defined[name]
                if isinstance(node, ast.ClassDef):
                    node = [own for own in node.body if isinstance(own, ast.FunctionDef)][0]
                own = [argument.arg for argument in node.args.args if argument.arg != "self"]
                self.assertEqual(", ".join(own), arguments, f"{module}.{name}")
                self.assertEqual((node.args.defaults, node.args.kwonlyargs, node.args.posonlyargs), ([], [], []), name)


if __name__ == "__main__":
    unittest.main()
