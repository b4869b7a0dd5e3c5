"""Check what a script can see of ../shared/LANGUAGE.md, for the package that is named.

Some checks are narrower than the document, so that they stay simple: no generator expressions, no `match`,
no annotations, no bytes, no handlers but for own errors and KeyError, no library.
"""

import ast
import builtins
import io
import os
import sys
import tokenize

ALLOWED_BUILTINS = set(
    "len range enumerate zip min max sum abs sorted reversed int str bool list tuple dict set isinstance ord repr any "
    "all divmod iter next map Exception ValueError TypeError KeyError IndexError LookupError ZeroDivisionError "
    "ArithmeticError OverflowError RuntimeError NotImplementedError AttributeError NotImplemented property "
    "staticmethod classmethod super".split()
)
BUILTIN_NAMES = {name for name in dir(builtins) if not name.startswith("_")}
METHODS = set(
    "append clear copy count endswith extend find get index insert isalnum isalpha isdigit islower isspace isupper "
    "items join keys ljust lower lstrip partition pop remove replace reverse rfind rjust rpartition rsplit rstrip "
    "setdefault split splitlines startswith strip update upper values zfill bit_length capitalize swapcase casefold "
    "expandtabs removeprefix removesuffix rindex isascii isdecimal isnumeric istitle isidentifier isprintable".split()
)
MODIFIERS = set("append clear extend insert pop remove reverse setdefault update sort add discard".split())
BUILTIN_ATTRIBUTES = {
    name for value in ("", 0, [], {}, set(), b"", ()) for name in dir(value) if not name.startswith("_")
}
NEVER = set("register mro elements open input law version_info with_traceback add_note".split())
NOT_NAMES = set(
    "attrgetter breakpoint builtins compile copyright credits delattr dir eval exec exit gc getattr globals hasattr "
    "help id importlib license locals methodcaller os quit setattr super type vars sys".split()
)
BAD_WORDS = set(
    "type typing typing_extensions enum Enum IntEnum StrEnum Flag IntFlag Generic Protocol ABC ABCMeta namedtuple "
    "NamedTuple TypedDict TYPE_CHECKING abstractmethod".split()
)
BAD_PARTS = ("dataclass", "overload", "contextmanager")
BAD_ATTRIBUTES = set(
    "items keys values pop update append clear extend insert remove reverse setdefault sort args encode decode hex "
    "fromhex format format_map mro".split()
)
BAD_STARTS = ("_wall", "_pe_", "_dcw_", "_enum_", "_cm_", "_twin_re_", "_lay_", "_law_", "_stub_", "_sre", "_WallAttr")
BAD_PRIVATE = ("_cold", "_tuplegetter", "_outside", "_record", "_written_out", "_member_names")
BAD_FILES = set("test tests testing site conftest sitecustomize usercustomize".split())
DUNDERS = set(
    "init eq repr str len enter exit call iter lt le gt ge ne add sub mul floordiv mod pow and or xor lshift rshift "
    "neg pos invert abs bool contains getitem setitem".split()
)
AT_ONCE = ("zip", "enumerate", "reversed", "range", "items", "keys", "values")
TAKERS = ("list", "tuple", "dict", "sorted", "sum", "any", "all", "enumerate", "zip", "min", "max")
BARE = ast.Tuple, ast.Constant, ast.UnaryOp, ast.Name, ast.List, ast.Dict
NO_NODES = (
    ast.Global, ast.AsyncFunctionDef, ast.AsyncFor, ast.AsyncWith, ast.Await, ast.GeneratorExp, ast.Match, ast.AnnAssign,
    ast.Import, ast.Div, ast.MatMult, ast.NamedExpr,
)

problems = []


def complain(path, node, rule, text):
    problems.append(f"{path}:{getattr(node, 'lineno', node)}: {rule} {text}")


def python_files(package):
    """Return the files of the package, and complain about what else is there."""
    found = []
    for folder, folders, files in os.walk(package):
        folders[:] = sorted(name for name in folders if name != "__pycache__")
        if "__init__.py" not in files:
            complain(folder, 0, "L14", "no __init__.py")
        for name in sorted(files):
            path = os.path.join(folder, name)
            stem = name[:-3]
            plain = stem.replace("_", "a").isalnum() and stem.islower() or name == "__init__.py"
            if not name.endswith(".py") or not plain or stem in folders:
                complain(path, 0, "L1", "a file with such a name")
            if stem in BUILTIN_NAMES | BAD_FILES | BAD_WORDS | NEVER | NOT_NAMES or stem.startswith(("law_", "test_")):
                complain(path, 0, "L14", "a name that is barred")
            found.append(path)
        for name in folders:
            if name in BUILTIN_NAMES | BAD_FILES | BAD_WORDS | NEVER | NOT_NAMES or not name.islower():
                complain(folder, 0, "L14", f"a folder {name}")
    if len(found) > 100:
        complain(package, 0, "L14", "more than 100 files")
    return found


def check_text(path, text):
    lines = text.split("\n")
    if len(lines) - 1 > 399:
        complain(path, 0, "L10", "more than 399 lines")
    for at, line in enumerate(lines, 1):
        if len(line) > 120:
            complain(path, at, "L10", "a line of more than 120 characters")
        if not all(" " <= sign <= "~" for sign in line):
            complain(path, at, "L14", "a character that is barred")
        if "_wall" in line or "_WallAttr" in line or "(type)" in line or "metaclass=" in line or "Meta" in line:
            complain(path, at, "L12", "a word that is barred")


def docstrings(tree):
    found = set()
    for node in ast.walk(tree):
        if isinstance(node, (ast.Module, ast.ClassDef, ast.FunctionDef)) and ast.get_docstring(node) is not None:
            found.add((node.body[0].value.lineno, node.body[0].value.col_offset))
    return found


def check_words(path, text, tree):
    """L17: words outside of comments and docstrings."""
    skipped = docstrings(tree)
    for token in tokenize.generate_tokens(io.StringIO(text).readline):
        if token.type == tokenize.COMMENT or token.start in skipped:
            continue
        words = token.string.replace(".", " ").replace('"', " ").replace("'", " ").split()
        if token.type == tokenize.STRING:
            words = [word for word in words if word != "type"]
        if any(word in BAD_WORDS for word in words) or any(part in token.string for part in BAD_PARTS):
            complain(path, token.start[0], "L17", f"the word {token.string}")


def bound_names(node):
    """Yield (name, node) for everything that a tree binds, attributes aside."""
    for part in ast.walk(node):
        if isinstance(part, ast.Name) and isinstance(part.ctx, (ast.Store, ast.Del)):
            yield part.id, part
        elif isinstance(part, ast.arg):
            yield part.arg, part
        elif isinstance(part, (ast.FunctionDef, ast.ClassDef)):
            yield part.name, part
        elif isinstance(part, ast.ExceptHandler) and part.name:
            yield part.name, part
        elif isinstance(part, ast.alias):
            yield part.asname or part.name, part


def check_names(path, tree):
    methods = {id(part) for node in ast.walk(tree) if isinstance(node, ast.ClassDef) for part in node.body}
    for name, node in bound_names(tree):
        is_method = id(node) in methods
        plain = name.replace("_", "a").isalnum() and name.isascii()
        if not plain or (name.startswith("__") and not is_method) or (name[0] == "_" and name[1:2].isdigit()):
            complain(path, node, "L12", f"the name {name}")
        if name.startswith(BAD_STARTS) or name.rstrip("0123456789_") in BAD_PRIVATE or name in NEVER:
            complain(path, node, "L17", f"the name {name}")
        if name in NOT_NAMES or (name in BUILTIN_NAMES and (not is_method or name in ALLOWED_BUILTINS)):
            complain(path, node, "L15", f"the name {name}")
    for node in ast.walk(tree):
        if isinstance(node, ast.Attribute) and (node.attr in NEVER or node.attr.startswith("__")):
            if node.attr != "__init__":
                complain(path, node, "L17", f"the attribute {node.attr}")
        if isinstance(node, ast.Attribute) and isinstance(node.ctx, ast.Store):
            if node.attr in BAD_ATTRIBUTES or node.attr in ("real", "imag", "numerator", "denominator"):
                complain(path, node, "L26", f"the attribute {node.attr}")


def module_names(tree):
    """Return what the top of a file binds: names to the kind of statement."""
    found = {}
    for node in tree.body:
        if isinstance(node, (ast.FunctionDef, ast.ClassDef)):
            found[node.name] = node
        elif isinstance(node, ast.Assign):
            found[node.targets[0].id] = node
        elif isinstance(node, ast.ImportFrom):
            for part in node.names:
                found[part.asname or part.name] = node
    return found


def check_module(path, tree, package):
    """L3, L15, L16: what stands at the top of a file."""
    bound = []
    imports_end = False
    for at, node in enumerate(tree.body):
        if isinstance(node, ast.ImportFrom):
            if imports_end or node.level or not node.module.split(".")[0] == package:
                complain(path, node, "L2", "an import")
            bound.extend(part.asname or part.name for part in node.names)
            continue
        if isinstance(node, ast.Expr) and at == 0 and isinstance(node.value, ast.Constant):
            continue
        imports_end = True
        if isinstance(node, (ast.FunctionDef, ast.ClassDef)):
            bound.append(node.name)
        elif isinstance(node, ast.Assign) and len(node.targets) == 1 and isinstance(node.targets[0], ast.Name):
            bound.append(node.targets[0].id)
            if not isinstance(node.value, BARE):
                complain(path, node, "L3", "a value that is not plain")
        else:
            complain(path, node, "L3", "a statement at module level")
    if len(set(bound)) != len(bound):
        complain(path, 0, "L15", "a name that is bound twice")
    taken = {name for name, node in module_names(tree).items() if isinstance(node, (ast.ClassDef, ast.ImportFrom))}
    for node in ast.walk(tree):
        if isinstance(node, ast.FunctionDef):
            for name, part in bound_names(ast.Module(body=[*node.body, node.args], type_ignores=[])):
                if name in taken:
                    complain(path, part, "L15", f"a local name {name} of a class or an import")


def parents_of(tree):
    return {id(part): node for node in ast.walk(tree) for part in ast.iter_child_nodes(node)}


def called(node):
    """Return the bare name or the attribute that a call calls."""
    if not isinstance(node, ast.Call):
        return None
    return getattr(node.func, "id", None) or getattr(node.func, "attr", None)


def is_at_once(node, parent, parents, takers=TAKERS):
    """L23: whether a call is iterated on the spot."""
    if isinstance(parent, (ast.For, ast.comprehension)):
        return parent.iter is node
    if isinstance(parent, ast.YieldFrom):
        return True
    if isinstance(parent, ast.Call) and called(parent) in takers:
        return True
    return called(parent) == "join"


def check_calls(path, tree, own_methods, generators):
    parents = parents_of(tree)
    for node in ast.walk(tree):
        if not isinstance(node, ast.Call):
            continue
        parent = parents[id(node)]
        name = called(node)
        if isinstance(node.func, ast.Attribute):
            if name not in METHODS and name not in own_methods and name != "__init__":
                complain(path, node, "L25", f"the method {name}")
        if name in AT_ONCE and not is_at_once(node, parent, parents):
            if not (name == "range" and called(parent) in ("reversed", "len")):
                complain(path, node, "L23", f"{name} is not iterated at once")
        if name in generators and not is_at_once(node, parent, parents):
            complain(path, node, "L23", f"the generator {name} is not iterated at once")
        if name in generators and called(parent) in ("any", "all", "min", "max", "sum", "sorted"):
            complain(path, node, "L7", f"the generator {name} in {called(parent)}")
        if name == "set" and called(parent) not in ("sorted", "len"):
            above = parent
            while isinstance(above, ast.BinOp):
                above = parents[id(above)]
            if called(above) not in ("sorted", "len") and not isinstance(above, ast.Compare):
                complain(path, node, "L24", "a set that is stored")
        if name in BUILTIN_NAMES and isinstance(node.func, ast.Name):
            allowed = {"sorted": ("key", "reverse"), "min": ("key", "default"), "max": ("key", "default"),
                       "sum": ("start",), "enumerate": ("start",), "zip": ("strict",)}.get(name, ())
            if any(word.arg not in allowed for word in node.keywords):
                complain(path, node, "L22", f"a keyword of {name}")
        if name in ("iter", "next") and isinstance(node.func, ast.Name):
            first = node.args[0]
            fine = isinstance(first, (ast.Name, ast.Attribute, ast.Subscript)) or called(first) == "iter"
            if not fine or (name == "next" and len(node.args) != 2):
                complain(path, node, "L8", f"{name} of something else")
        if name == "isinstance" and isinstance(node.args[1], ast.Call):
            complain(path, node, "L22", "isinstance")
        if name == "reversed" and called(node.args[0]) not in ("list", "tuple", "sorted", "range"):
            complain(path, node, "L5", "reversed of something else")


def is_name_or_attribute(node):
    return isinstance(node, ast.Name) or isinstance(node, ast.Attribute) and isinstance(node.value, ast.Name)


def check_stars(path, tree):
    """L7: what stands behind a star or two in a call."""
    for node in ast.walk(tree):
        if not isinstance(node, ast.Call):
            continue
        for part in node.args:
            if isinstance(part, ast.Starred) and not is_name_or_attribute(part.value):
                complain(path, part, "L7", "a star before something else")
        double = [word for word in node.keywords if word.arg is None]
        if double and (len(node.keywords) > 1 or not is_name_or_attribute(double[0].value)):
            complain(path, node, "L7", "two stars beside or before something else")


def check_blocks(path, tree):
    """L6: what `with` stands over, and what `__exit__` does."""
    for node in ast.walk(tree):
        if isinstance(node, ast.With):
            for item in node.items:
                if not isinstance(item.context_expr, (ast.Call, ast.Name, ast.Attribute)):
                    complain(path, node, "L6", "with over something else")
                if item.optional_vars is not None and not isinstance(item.optional_vars, ast.Name):
                    complain(path, node, "L6", "with as something else")
        if isinstance(node, ast.FunctionDef) and node.name == "__exit__":
            for part in node.body:
                fine = isinstance(part, ast.Assign) and isinstance(part.value, ast.Attribute) and all(
                    isinstance(target, ast.Attribute) for target in part.targets)
                if not fine:
                    complain(path, part, "L6", "a statement of __exit__")


def check_nodes(path, tree, own_names, error_names):
    for node in ast.walk(tree):
        if isinstance(node, NO_NODES):
            complain(path, node, "L6", f"{node.__class__.__name__} is not used")
        if isinstance(node, ast.Constant):
            if isinstance(node.value, (float, complex, bytes)) or node.value is ...:
                complain(path, node, "L7", "a constant")
            if isinstance(node.value, str) and (
                    "%" in node.value or node.value.endswith(("._", ".__"))
                    or (node.value.startswith("__") and node.value.endswith("__"))):
                complain(path, node, "L27", "a string")
        if isinstance(node, ast.Name) and isinstance(node.ctx, ast.Load):
            if node.id in BUILTIN_NAMES and node.id not in ALLOWED_BUILTINS and node.id not in own_names:
                complain(path, node, "L8", f"the builtin {node.id}")
        if isinstance(node, ast.BinOp) and isinstance(node.op, ast.Pow) and not isinstance(node.right, ast.Constant):
            complain(path, node, "L27", "a power")
        if isinstance(node, ast.BinOp) and isinstance(node.op, ast.Mod) and isinstance(node.left, ast.Constant):
            complain(path, node, "L27", "a format")
        if isinstance(node, ast.Raise) and node.exc is not None and called(node.exc) not in error_names:
            complain(path, node, "L19", "an error that is not created on the spot")
        if isinstance(node, ast.ExceptHandler):
            names = node.type.elts if isinstance(node.type, ast.Tuple) else [node.type]
            if any(getattr(part, "id", None) not in error_names | {"KeyError"} for part in names):
                complain(path, node, "L19", "a handler")
        if isinstance(node, ast.Compare):
            for op, part in zip(node.ops, node.comparators):
                if isinstance(op, (ast.Is, ast.IsNot)) and not (
                        isinstance(part, ast.Constant) and part.value in (None, True, False)):
                    complain(path, node, "L20", "is")
        if isinstance(node, ast.FunctionDef) and (node.returns or any(
                part.annotation for part in ast.walk(node.args) if isinstance(part, ast.arg))):
            complain(path, node, "L21", "an annotation")


def check_functions(path, tree):
    for node in ast.walk(tree):
        if isinstance(node, ast.FunctionDef):
            first = min([node.lineno, *[part.lineno for part in node.decorator_list]])
            if node.end_lineno - first + 1 > 40:
                complain(path, node, "L10", f"{node.name} has more than 40 lines")
            for part in node.args.defaults + [part for part in node.args.kw_defaults if part is not None]:
                if not isinstance(part, (ast.Constant, ast.UnaryOp, ast.Tuple)):
                    complain(path, part, "L4", "a default value")
            if node.name.startswith("__") and node.name.strip("_") not in DUNDERS:
                complain(path, node, "L5", f"the method {node.name}")
            if node.name in ("__eq__", "__str__", "__repr__", "__len__"):
                check_plain_method(path, node)
        if isinstance(node, ast.ClassDef) and node.decorator_list:
            complain(path, node, "L4", "a decorator over a class")
        if isinstance(node, ast.ClassDef) and not node.name[0].isalpha():
            complain(path, node, "L12", f"the class name {node.name}")


def check_plain_method(path, node):
    """L28: assigns nothing, ends with a return."""
    for part in ast.walk(node):
        if isinstance(part, (ast.Assign, ast.AugAssign, ast.Delete)):
            complain(path, part, "L28", f"{node.name} assigns")
    if not isinstance(node.body[-1], ast.Return):
        complain(path, node, "L28", f"{node.name} does not end with a return")


def own_lists(node):
    """Return the local names that are assigned nothing but new lists and dicts."""
    good, bad = set(), {part.arg for part in ast.walk(node.args) if isinstance(part, ast.arg)}
    for part in ast.walk(node):
        if isinstance(part, ast.Assign):
            fresh = isinstance(part.value, (ast.List, ast.Dict, ast.ListComp)) or (
                isinstance(getattr(part.value, "func", None), ast.Name)
                and called(part.value) in ("list", "dict", "sorted"))
            for target in part.targets:
                if isinstance(target, ast.Name):
                    (good if fresh else bad).add(target.id)
    return good - bad


def check_pure(path, node, is_init):
    """L5: a function that an operator or a property runs changes nothing but its own lists and dicts."""
    fresh = own_lists(node)
    for part in ast.walk(node):
        targets = []
        if isinstance(part, (ast.Assign, ast.Delete)):
            targets = part.targets
        elif isinstance(part, ast.AugAssign):
            targets = [part.target]
            if not (isinstance(part.target, ast.Name) and isinstance(part.value, ast.Constant)):
                complain(path, part, "L5", "+= in what an operator runs")
        for target in targets:
            if isinstance(target, ast.Attribute) and not (is_init and getattr(target.value, "id", "") == "self"):
                complain(path, part, "L5", "an attribute is assigned in what an operator runs")
            if isinstance(target, ast.Subscript) and getattr(target.value, "id", None) not in fresh:
                complain(path, part, "L5", "an item is assigned in what an operator runs")
        if isinstance(part, ast.Call) and isinstance(part.func, ast.Attribute) and part.func.attr in MODIFIERS:
            if getattr(part.func.value, "id", None) not in fresh:
                complain(path, part, "L5", "something is changed in what an operator runs")
        arguments = [item.arg for item in ast.walk(node.args) if isinstance(item, ast.arg)]
        if isinstance(part, ast.Call) and isinstance(part.func, ast.Name) and part.func.id in arguments:
            if part.func.id != "cls":
                complain(path, part, "L5", "something that is passed is called in what an operator runs")


def functions_of(trees):
    """Return all functions by name: lists of (path, node, name of the class or None)."""
    found = {}
    for path, tree in trees.items():
        for node in tree.body:
            if isinstance(node, ast.FunctionDef):
                found.setdefault(node.name, []).append((path, node, None))
            if isinstance(node, ast.ClassDef):
                for part in node.body:
                    if isinstance(part, ast.FunctionDef):
                        key = node.name if part.name == "__init__" else part.name
                        found.setdefault(key, []).append((path, part, node.name))
                        if part.name == "__init__":
                            found.setdefault("cls", []).append((path, part, node.name))
    return found


def check_operators(trees):
    """L5: follow by name what operators, properties and the plain methods run."""
    functions = functions_of(trees)
    waiting = []
    for rows in functions.values():
        for row in rows:
            node = row[1]
            plain = node.name.startswith("__") and node.name not in (
                "__init__", "__call__", "__iter__", "__enter__", "__exit__", "__setitem__")
            if plain or any(getattr(part, "id", None) == "property" for part in node.decorator_list):
                waiting.append(row)
    seen = set()
    while waiting:
        path, node, owner = waiting.pop()
        if (path, node.lineno) in seen:
            continue
        seen.add((path, node.lineno))
        check_pure(path, node, node.name == "__init__")
        for part in ast.walk(node):
            if isinstance(part, ast.Call):
                waiting.extend(functions.get(called(part), []))
            elif isinstance(part, ast.Attribute) and part.attr in functions:
                waiting.extend(functions[part.attr])


def is_generator(node):
    return any(isinstance(part, (ast.Yield, ast.YieldFrom)) for part in ast.walk(node))


def check_classes(trees, functions):
    """L5, L18, L23: names of methods, properties, attributes and generators."""
    methods, properties, attributes, built = {}, set(), {}, set()
    for path, tree in trees.items():
        for node in [part for part in tree.body if isinstance(part, ast.ClassDef)]:
            names = [part.name for part in node.body if isinstance(part, ast.FunctionDef)]
            if len(set(names)) != len(names):
                complain(path, node, "L18", f"a method of {node.name} is defined twice")
            for part in node.body:
                marks = [getattr(mark, "id", None) for mark in getattr(part, "decorator_list", [])]
                if "property" in marks:
                    properties.add(part.name)
                elif marks:
                    built.add(part.name)
                elif isinstance(part, ast.FunctionDef):
                    methods.setdefault(part.name, []).append((path, part))
                elif not (isinstance(part, ast.Expr) and isinstance(part.value, ast.Constant)):
                    complain(path, part, "L5", "a class value")
            for part in ast.walk(node):
                if isinstance(part, ast.Attribute) and isinstance(part.ctx, ast.Store):
                    attributes.setdefault(part.attr, path)
    for name in (properties | built) & set(methods) | properties & built | set(attributes) & (properties | set(methods)):
        complain(attributes.get(name, "package"), 0, "L18", f"{name} is a name of several kinds")
    for name in (set(methods) | properties | built) & (BUILTIN_ATTRIBUTES - METHODS - {"add", "discard"}):
        complain("package", 0, "L26", f"the method {name}")
    for name in properties & BUILTIN_ATTRIBUTES:
        complain("package", 0, "L5", f"the property {name}")
    for name, rows in functions.items():
        if any(is_generator(row[1]) for row in rows) and (len(rows) > 1 or name in METHODS):
            complain(rows[0][0], rows[0][1], "L23", f"the generator {name} shares its name")


def check_imports(trees, package):
    """L16: each import names the file that defines the name; no rings."""
    homes = {path[:-3].replace(os.sep, "."): path for path in trees}
    edges = {}
    for path, tree in trees.items():
        edges[path] = set()
        for node in tree.body:
            if not isinstance(node, ast.ImportFrom):
                continue
            home = homes.get(node.module)
            if home is None:
                complain(path, node, "L16", f"no file {node.module}")
                continue
            edges[path].add(home)
            tops = module_names(trees[home])
            for part in node.names:
                if part.name not in tops or isinstance(tops[part.name], ast.ImportFrom):
                    complain(path, node, "L16", f"{part.name} is not defined in {node.module}")
    gone = set()
    while True:
        free = [path for path in edges if path not in gone and edges[path] <= gone]
        if not free:
            break
        gone.update(free)
    for path in set(edges) - gone:
        complain(path, 0, "L16", "imports in a ring")


def used_imports(path, tree):
    names = {node.id for node in ast.walk(tree) if isinstance(node, ast.Name)}
    for node in tree.body:
        if isinstance(node, ast.ImportFrom):
            for part in node.names:
                if (part.asname or part.name) not in names:
                    complain(path, node, "L16", f"{part.name} is imported for nothing")


def main(package):
    trees = {}
    texts = {}
    for path in python_files(package):
        with open(path, encoding="utf-8", newline="") as file:
            texts[path] = file.read()
        trees[path] = ast.parse(texts[path])
    functions = functions_of(trees)
    generators = {name for name, rows in functions.items() if any(is_generator(row[1]) for row in rows)}
    own_methods = {row[1].name for rows in functions.values() for row in rows if row[2] is not None}
    classes = [node for tree in trees.values() for node in tree.body if isinstance(node, ast.ClassDef)]
    error_names = {node.name for node in classes if node.bases} | {"TypeError"}
    own_names = set(functions)
    for path, tree in trees.items():
        check_text(path, texts[path])
        check_words(path, texts[path], tree)
        check_names(path, tree)
        check_module(path, tree, package)
        check_calls(path, tree, own_methods, generators)
        check_nodes(path, tree, own_names, error_names)
        check_functions(path, tree)
        check_stars(path, tree)
        check_blocks(path, tree)
        used_imports(path, tree)
    check_operators(trees)
    check_classes(trees, functions)
    check_imports(trees, package)
    for text in sorted(set(problems)):
        print(text)
    print(f"language: {len(trees)} files, {len(set(problems))} problems")
    return 1 if problems else 0


if __name__ == "__main__":
    sys.exit(main(sys.argv[1]))
