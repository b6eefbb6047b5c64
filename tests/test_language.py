"""Whether the package keeps to the rules of LANGUAGE.md that can be seen in its files.

The number of the rule stands in each finding.
"""

import ast
import builtins
import re
import unittest
from pathlib import Path

PACKAGE = Path(__file__).resolve().parent.parent / "fitwhatever"

OWN_NAMES = set(
    "len range enumerate zip min max sum abs sorted reversed int str bool list tuple dict set frozenset isinstance ord "
    "repr any all divmod Exception ValueError TypeError KeyError IndexError LookupError ZeroDivisionError "
    "ArithmeticError OverflowError RuntimeError NotImplementedError AttributeError StopIteration".split()
)
OWN_METHODS = set(
    "append clear copy count endswith extend find get index insert isalnum isalpha isdigit islower isspace isupper items "
    "join keys ljust lower lstrip partition pop remove replace reverse rfind rjust rpartition rsplit rstrip setdefault "
    "split splitlines startswith strip update upper values zfill bit_length".split()
)
KEYWORDS = {
    "sorted": {"key", "reverse"}, "min": {"key", "default"}, "max": {"key", "default"}, "sum": {"start"},
    "enumerate": {"start"}, "zip": {"strict"},
}
DUNDERS = {"__init__", "__eq__", "__repr__", "__str__", "__len__"}
WALKED = {"zip", "enumerate", "reversed", "range"}
WALKERS = {"list", "tuple", "dict", "sorted", "sum", "any", "all", "enumerate", "zip", "min", "max"}
WORDS = re.compile(
    r"(?<![A-Za-z0-9_])(type|typing|typing_extensions|enum|Enum|IntEnum|StrEnum|Flag|IntFlag|Generic|Protocol|ABC|"
    r"ABCMeta|namedtuple|NamedTuple|TypedDict|TYPE_CHECKING|abstractmethod)(?![A-Za-z0-9_])|dataclass|overload|"
    r"contextmanager"
)
NEVER = {"register", "mro", "elements", "open", "input", "version_info", "with_traceback", "add_note", "format",
         "format_map"}
STATEMENTS = (
    ast.Assign, ast.AugAssign, ast.If, ast.While, ast.For, ast.Return, ast.Break, ast.Continue, ast.Pass, ast.Raise,
    ast.Try, ast.Expr, ast.FunctionDef, ast.ClassDef, ast.ImportFrom,
)
EXPRESSIONS = (
    ast.Constant, ast.List, ast.Tuple, ast.Dict, ast.BinOp, ast.UnaryOp, ast.BoolOp, ast.Compare, ast.IfExp, ast.Call,
    ast.Attribute, ast.Subscript, ast.Slice, ast.ListComp, ast.JoinedStr, ast.FormattedValue, ast.Name, ast.Lambda,
)


class File:
    """One file of the package, with what the rules ask of it."""

    def __init__(self, path):
        self.path = path
        self.text = path.read_bytes().decode("utf-8")
        self.tree = ast.parse(self.text)
        self.found = []
        self.parents = {}
        for node in ast.walk(self.tree):
            for child in ast.iter_child_nodes(node):
                self.parents[child] = node
        self.imports = [node for node in ast.walk(self.tree) if isinstance(node, ast.ImportFrom)]
        self.imported = [alias.name for node in self.imports for alias in node.names]
        self.classes = [node.name for node in self.tree.body if isinstance(node, ast.ClassDef)]
        self.bound = list(self.classes)
        for node in self.tree.body:
            if isinstance(node, ast.FunctionDef):
                self.bound.append(node.name)
            if isinstance(node, ast.Assign):
                self.bound.append(node.targets[0].id)

    def find(self, rule, node, what):
        self.found.append(f"{self.path.name}:{getattr(node, 'lineno', 1)}: {rule}: {what}")

    def methods(self):
        bodies = [node.body for node in self.tree.body if isinstance(node, ast.ClassDef)]
        return [node.name for body in bodies for node in body if isinstance(node, ast.FunctionDef)]

    def values(self):
        return [node.attr for node in ast.walk(self.tree)
                if isinstance(node, ast.Attribute) and isinstance(node.ctx, ast.Store)]

    def check_text(self):
        for number, line in enumerate(self.text.split("\n"), 1):
            if len(line) > 120:
                self.found.append(f"{self.path.name}:{number}: L10: long line")
            if re.search(r"[^ -~]", line):
                self.found.append(f"{self.path.name}:{number}: L14: a sign outside")
            if WORDS.search(line):
                self.found.append(f"{self.path.name}:{number}: L17: a word that is not used")
        if self.text.count("\n") > 400:
            self.found.append(f"{self.path.name}: L10: long file")

    def check_top(self):
        for k, node in enumerate(self.tree.body):
            is_text = isinstance(node, ast.Expr) and isinstance(node.value, ast.Constant) and k == 0
            if not is_text and not isinstance(node, (ast.ImportFrom, ast.FunctionDef, ast.ClassDef, ast.Assign)):
                self.find("L3", node, "no such thing at the top")
            if isinstance(node, ast.Assign):
                for part in ast.walk(node.value):
                    if isinstance(part, (ast.Call, ast.BinOp, ast.Attribute, ast.ListComp)):
                        self.find("L3", node, "no plain value")
        for name in set(self.bound):
            if (self.bound + self.imported).count(name) > 1:
                self.find("L15", self.tree, f"{name} is bound twice")

    def check_node(self, node, own_methods):
        if isinstance(node, ast.stmt) and not isinstance(node, STATEMENTS):
            self.find("L6", node, ast.dump(node)[:60])
        if isinstance(node, ast.expr) and not isinstance(node, EXPRESSIONS):
            self.find("L7", node, ast.dump(node)[:60])
        check = getattr(self, "check_" + node.__class__.__name__.lower(), None)
        if check is not None:
            check(node)
        if isinstance(node, ast.Attribute) and isinstance(self.parents[node], ast.Call):
            if self.parents[node].func == node and node.attr not in OWN_METHODS | own_methods | {"__init__"}:
                self.find("L25", node, f"the method {node.attr}")

    def check_functiondef(self, node):
        if node.end_lineno - node.lineno + 1 > 40:
            self.find("L10", node, "long function")
        names = node.args
        if names.vararg or names.kwarg or names.kwonlyargs or names.posonlyargs or node.decorator_list:
            self.find("L4", node, "no plain parameters")
        for default in names.defaults:
            if not isinstance(default, (ast.Constant, ast.Tuple, ast.UnaryOp)):
                self.find("L4", node, "no plain default")
        if node.returns or [name for name in names.args if name.annotation]:
            self.find("L21", node, "annotation")
        if node.name.startswith("_") and node.name not in DUNDERS:
            self.find("L12", node, node.name)
        for name in names.args:
            self.check_local(node, name.arg)

    def check_local(self, node, name):
        if name in dir(builtins) or name in self.classes or name in self.imported:
            self.find("L15", node, f"a local is called {name}")
        if name.startswith("_"):
            self.find("L12", node, name)

    def check_classdef(self, node):
        if node not in self.tree.body or len(node.bases) > 1 or node.keywords or node.decorator_list:
            self.find("L5", node, "no plain class")
        for k, part in enumerate(node.body):
            if not isinstance(part, ast.FunctionDef) and not (k == 0 and isinstance(part, ast.Expr)):
                self.find("L5", part, "no method")
        names = [part.name for part in node.body if isinstance(part, ast.FunctionDef)]
        if len(set(names)) < len(names):
            self.find("L18", node, "a method stands twice")

    def check_importfrom(self, node):
        if node not in self.tree.body or node.level or not (node.module or "").startswith("fitwhatever."):
            self.find("L2", node, "import")
        if [alias for alias in node.names if alias.name == "*" or alias.asname]:
            self.find("L16", node, "import by another name")

    def check_assign(self, node):
        if len(node.targets) != 1 or isinstance(node.targets[0], (ast.Tuple, ast.List)):
            self.find("L6", node, "one target in an assignment")

    def check_for(self, node):
        if node.orelse:
            self.find("L6", node, "else behind a loop")

    def check_while(self, node):
        self.check_for(node)

    def check_try(self, node):
        if node.finalbody:
            self.find("L6", node, "finally")
        for handler in node.handlers:
            named = handler.type.elts if isinstance(handler.type, ast.Tuple) else [handler.type]
            for name in named:
                if not isinstance(name, ast.Name) or name.id in ("Exception", "TypeError"):
                    self.find("L19", node, "except")

    def check_raise(self, node):
        if not isinstance(node.exc, ast.Call):
            self.find("L19", node, "raise makes its error on the spot")

    def check_expr(self, node):
        if isinstance(node.value, ast.Constant):
            holder = self.parents[node]
            if not isinstance(node.value.value, str) or holder.body[0] != node or isinstance(holder, ast.If):
                self.find("L6", node, "a value by itself")
        elif not isinstance(node.value, ast.Call):
            self.find("L6", node, "no call by itself")

    def check_constant(self, node):
        if not isinstance(node.value, (int, str, type(None))):
            self.find("L7", node, "constant")
        if isinstance(node.value, str) and "%" in node.value:
            self.find("L27", node, "percent sign")

    def check_binop(self, node):
        if isinstance(node.op, (ast.Div, ast.MatMult)):
            self.find("L7", node, "operator")
        if isinstance(node.op, ast.Pow) and not isinstance(node.right, ast.Constant):
            self.find("L27", node, "power")

    def check_augassign(self, node):
        self.check_binop(ast.BinOp(node.target, node.op, node.value))

    def check_compare(self, node):
        sides = [node.left] + node.comparators
        for k, operator in enumerate(node.ops):
            if isinstance(operator, (ast.Is, ast.IsNot)):
                plain = [side for side in sides[k:k + 2] if isinstance(side, ast.Constant)
                         and (side.value is None or isinstance(side.value, bool))]
                if not plain:
                    self.find("L20", node, "is")

    def check_listcomp(self, node):
        if len(node.generators) != 1 or len(node.generators[0].ifs) > 1:
            self.find("L7", node, "comprehension")

    def check_formattedvalue(self, node):
        if not isinstance(node.value, ast.Name) or node.format_spec or node.conversion not in (-1, ord("r")):
            self.find("L7", node, "f-string")

    def check_attribute(self, node):
        if node.attr in NEVER or (node.attr.startswith("_") and node.attr != "__init__"):
            self.find("L17", node, node.attr)
        if isinstance(node.ctx, ast.Store) and not isinstance(node.value, ast.Name):
            self.find("L18", node, "a value is given through a local name")

    def check_name(self, node):
        if node.id in NEVER:
            self.find("L17", node, node.id)
        if isinstance(node.ctx, ast.Store) and self.parents.get(node) not in self.tree.body:
            self.check_local(node, node.id)
        elif node.id in dir(builtins) and node.id not in OWN_NAMES:
            self.find("L8", node, node.id)

    def check_call(self, node):
        name = node.func.id if isinstance(node.func, ast.Name) else ""
        method = node.func.attr if isinstance(node.func, ast.Attribute) else ""
        if name in OWN_NAMES or method in OWN_METHODS:
            if [keyword for keyword in node.keywords if keyword.arg not in KEYWORDS.get(name, ())]:
                self.find("L22", node, "keyword")
        holder = self.parents[node]
        if name in WALKED or method in ("items", "keys", "values"):
            walker = getattr(getattr(holder, "func", None), "id", "")
            joins = getattr(getattr(holder, "func", None), "attr", "") == "join"
            walks = isinstance(holder, (ast.For, ast.comprehension)) and holder.iter == node
            if not walks and not joins and walker not in WALKERS:
                self.find("L23", node, "not walked at once")
        if name in ("set", "frozenset"):
            within = isinstance(holder, ast.Call) and getattr(holder.func, "id", "") in ("sorted", "len")
            if not within and not isinstance(holder, (ast.Compare, ast.BinOp)):
                self.find("L24", node, "a set that is kept")


def files():
    return [File(path) for path in sorted(PACKAGE.glob("*.py"))]


class LanguageTest(unittest.TestCase):
    def test_the_folder_holds_plain_files_alone(self):
        for path in PACKAGE.iterdir():
            if path.name != "__pycache__":
                self.assertRegex(path.name, r"^([a-z][a-z0-9_]*|__init__|__main__)\.py$", "L1, L14")

    def test_each_file_keeps_to_the_rules(self):
        own_methods = {name for file in files() for name in file.methods()}
        for file in files():
            file.check_text()
            file.check_top()
            for node in ast.walk(file.tree):
                file.check_node(node, own_methods)
            self.assertEqual(file.found, [])

    def test_names_are_drawn_from_the_file_that_defines_them(self):
        bound = {"fitwhatever." + file.path.stem: file.bound for file in files()}
        for file in files():
            for node in file.imports:
                for alias in node.names:
                    self.assertIn(alias.name, bound.get(node.module, []), (file.path.name, "L16"))

    def test_no_two_files_draw_from_one_another(self):
        drawn = {file.path.stem: {node.module.split(".")[1] for node in file.imports} for file in files()}
        while drawn:
            free = [stem for stem in drawn if not drawn[stem] & set(drawn)]
            self.assertTrue(free, ("L16", drawn))
            for stem in free:
                drawn.pop(stem)

    def test_no_name_is_a_method_and_a_value(self):
        methods = {name for file in files() for name in file.methods()}
        values = {name for file in files() for name in file.values()}
        self.assertEqual(methods & values, set(), "L18")


if __name__ == "__main__":
    unittest.main()
