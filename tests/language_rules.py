"""Finds places of the package that break rules of LANGUAGE.md.

It covers the rules that can be judged by looking at one statement or one name; it does not replace reading the rest.
"""

import ast
import builtins
import io
import re
import tokenize

PACKAGE = "renamesteps"

BUILTINS = set("""len range enumerate zip min max sum abs sorted reversed int str bool bytes list tuple dict set frozenset
    isinstance ord repr any all divmod iter next super property staticmethod classmethod Exception ValueError TypeError
    KeyError IndexError LookupError ZeroDivisionError ArithmeticError OverflowError RuntimeError NotImplementedError
    AttributeError StopIteration NotImplemented""".split())
METHODS = set("""append clear copy count endswith extend find get index insert isalnum isalpha isdigit islower isspace
    isupper items join keys ljust lower lstrip partition pop remove replace reverse rfind rjust rpartition rsplit rstrip
    setdefault split splitlines startswith strip update upper values zfill bit_length title capitalize swapcase casefold
    center expandtabs removeprefix removesuffix rindex isascii isdecimal isnumeric istitle isidentifier isprintable
    translate add discard sort encode decode hex __init__""".split())
BARRED_NAMES = set("""register mro elements open input version_info with_traceback add_note attrgetter breakpoint builtins
    compile copyright credits delattr dir eval exec exit gc getattr globals hasattr help id importlib license locals
    methodcaller os quit setattr type vars sys""".split())
BARRED_WORDS = re.compile(r"\b(type|typing|typing_extensions|enum|Enum|IntEnum|StrEnum|Flag|IntFlag|Generic|Protocol|ABC|"
                          r"ABCMeta|namedtuple|NamedTuple|TypedDict|TYPE_CHECKING|abstractmethod)\b|dataclass|overload|"
                          r"contextmanager")
BARRED_NODES = (ast.Global, ast.AsyncFunctionDef, ast.AsyncFor, ast.AsyncWith, ast.Await, ast.Div)
# The names of methods of builtin values that attributes may have, too.
FREE_ATTRIBUTES = set("count index title find get join lower upper split strip copy add".split())
PLAIN_DOUBLE = re.compile(r"__[a-z]+__")


def find_breaks(files):
    """The list of (file, line, rule) for a dict that gives the text of each file of the package."""
    breaks = []
    trees = {}
    for name, text in files.items():
        breaks += [(name, line, rule) for line, rule in text_breaks(name, text)]
        trees[name] = ast.parse(text)
    own_methods = {part.name for tree in trees.values() for part in methods_in(tree)}
    for name, tree in trees.items():
        breaks += [(name, line, rule) for line, rule in place_breaks(tree, own_methods)]
        breaks += [(name, line, rule) for line, rule in attribute_breaks(tree, trees)]
        breaks += [(name, line, rule) for line, rule in module_breaks(tree)]
        breaks += [(name, line, rule) for line, rule in node_breaks(tree, own_methods)]
        breaks += [(name, line, rule) for line, rule in import_breaks(tree, trees)]
    breaks += [(name, 0, "L16 circle") for name in trees if name in reached(name, trees)]
    return sorted(set(breaks))


def text_breaks(name, text):
    if not re.fullmatch(r"[a-z0-9_]+\.py", name):
        yield 0, "L1 file name"
    lines = text.split("\n")
    if len(lines) > 401:
        yield 401, "L10 file"
    for number, line in enumerate(lines, 1):
        if len(line) > 120:
            yield number, "L10 line"
        if any(not " " <= character <= "~" for character in line):
            yield number, "L14 character"
        if BARRED_WORDS.search(line):
            yield number, "L17 word"
    for token in tokenize.generate_tokens(io.StringIO(text).readline):
        if token.type == tokenize.STRING:
            if "%" in token.string:
                yield token.start[0], "L27 percent sign"
            if re.search(r"\\[^nt\\'\"]", token.string.replace("\\\\", "")):
                yield token.start[0], "L27 escape"


def module_breaks(tree):
    bound = []
    for place, node in enumerate(tree.body):
        if isinstance(node, ast.Expr) and isinstance(node.value, ast.Constant) and place == 0:
            continue
        if isinstance(node, ast.ImportFrom):
            bound += [(alias.asname or alias.name, node) for alias in node.names]
            if any(isinstance(above, (ast.FunctionDef, ast.ClassDef, ast.Assign)) for above in tree.body[:place]):
                yield node.lineno, "L2 place"
        elif isinstance(node, (ast.FunctionDef, ast.ClassDef)):
            bound.append((node.name, node))
        elif isinstance(node, ast.Assign) and len(node.targets) == 1 and isinstance(node.targets[0], ast.Name):
            bound.append((node.targets[0].id, node))
            if any(isinstance(part, (ast.Call, ast.Set, ast.ListComp, ast.Lambda)) for part in ast.walk(node.value)):
                yield node.lineno, "L3 value"
        else:
            yield node.lineno, "L3 statement"
    for place, (name, node) in enumerate(bound):
        if name in [other for other, _ in bound[:place]]:
            yield node.lineno, "L15 bound twice"
    yield from shadow_breaks(tree)


def shadow_breaks(tree):
    """Local names that hide a class or an import of the file, or a builtin."""
    barred = set(dir(builtins))
    for node in tree.body:
        if isinstance(node, ast.ImportFrom):
            barred |= {alias.asname or alias.name for alias in node.names}
        if isinstance(node, ast.ClassDef):
            barred.add(node.name)
    for node in ast.walk(tree):
        if isinstance(node, ast.arg) and node.arg in barred:
            yield node.lineno, "L15 hidden"
        if isinstance(node, ast.Name) and isinstance(node.ctx, ast.Store) and node.id in barred:
            yield node.lineno, "L15 hidden"


def node_breaks(tree, own_methods):
    for node in ast.walk(tree):
        line = getattr(node, "lineno", 0)
        if isinstance(node, BARRED_NODES):
            yield line, "L6 L7 barred"
        if isinstance(node, ast.Constant) and isinstance(node.value, (float, complex)):
            yield line, "L7 float"
        if isinstance(node, ast.Name) and node.id in dir(builtins) and node.id not in BUILTINS:
            yield line, "L8 builtin"
        if isinstance(node, (ast.FunctionDef, ast.ClassDef)):
            yield from definition_breaks(node)
        if isinstance(node, ast.Compare):
            for sign, right in zip(node.ops, node.comparators):
                if isinstance(sign, (ast.Is, ast.IsNot)) and not is_singleton(right):
                    yield line, "L20"
        if isinstance(node, ast.Call) and isinstance(node.func, ast.Attribute):
            if node.func.attr not in METHODS | own_methods:
                yield line, "L25"
        if isinstance(node, ast.Raise) and not is_plain_raise(node):
            yield line, "L19 raise"
        if isinstance(node, ast.ExceptHandler) and not is_plain_handler(node):
            yield line, "L19 handler"
        for name in names_in(node):
            if name.startswith("_") and not PLAIN_DOUBLE.fullmatch(name):
                yield line, "L12"
            if name in BARRED_NAMES:
                yield line, "L17 name"


def definition_breaks(node):
    if isinstance(node, ast.FunctionDef):
        given = node.args.defaults + [default for default in node.args.kw_defaults if default is not None]
        if not all(isinstance(default, ast.Constant) for default in given):
            yield node.lineno, "L4 default"
    if node.decorator_list and isinstance(node, ast.ClassDef):
        yield node.lineno, "L5 decorator"
    if isinstance(node, ast.FunctionDef) and node.end_lineno - node.lineno + 1 > 40:
        yield node.lineno, "L10 function"
    if isinstance(node, ast.FunctionDef) and node.args.posonlyargs:
        yield node.lineno, "L4 parameters"


def methods_in(tree):
    return [part for node in ast.walk(tree) if isinstance(node, ast.ClassDef)
            for part in node.body if isinstance(part, ast.FunctionDef)]


def is_call_of(node, names):
    """Whether a node calls a builtin, or a method of a value, with one of these names."""
    if not isinstance(node, ast.Call):
        return False
    return isinstance(node.func, ast.Name) and node.func.id in names or (
        isinstance(node.func, ast.Attribute) and node.func.attr in names)


def place_breaks(tree, own_methods):
    """Generators, iterators, sets, keywords and annotations where they may not stand.

    Where the rules allow more than the package needs, these checks are narrower than the rules.
    """
    above = {id(child): node for node in ast.walk(tree) for child in ast.iter_child_nodes(node)}
    # A comprehension or a loop that iterates over something has it as its `iter`.
    iterated = {id(node.iter) for node in ast.walk(tree) if isinstance(node, (ast.For, ast.comprehension))}
    for node in ast.walk(tree):
        parent = above.get(id(node))
        line = getattr(node, "lineno", 0)
        if isinstance(node, ast.GeneratorExp):
            takers = set() if "__eq__" in own_methods else {"any", "all", "min", "max", "sum", "sorted"}
            if not is_call_of(parent, takers | {"list", "tuple", "dict", "join"}):
                yield line, "L7 generator"
        if is_call_of(node, {"zip", "enumerate", "range", "reversed", "items", "keys", "values"}):
            if id(node) not in iterated and not is_call_of(
                    parent, {"list", "tuple", "dict", "sorted", "sum", "any", "all", "enumerate", "zip", "min", "max"}):
                yield line, "L23 stored"
        if isinstance(node, (ast.Set, ast.SetComp)) or is_call_of(node, {"set", "frozenset"}):
            if not is_call_of(parent, {"sorted", "len"}) and not isinstance(parent, ast.Compare):
                yield line, "L24 set"
        if isinstance(node, ast.Call) and node.keywords and is_call_of(node, BUILTINS | METHODS - own_methods):
            if {word.arg for word in node.keywords} - {"key", "reverse", "default", "start", "strict"}:
                yield line, "L22 keyword"
        if isinstance(node, (ast.AnnAssign, ast.Yield, ast.YieldFrom, ast.With, ast.Match, ast.NamedExpr, ast.Lambda)):
            yield line, "L4 L6 L21 not needed"


def attribute_breaks(tree, trees):
    """Methods and attributes with names that they may not have, and attributes that nothing assigns."""
    attributes = [node for other in trees.values() for node in ast.walk(other) if isinstance(node, ast.Attribute)]
    assigned = {node.attr for node in attributes if isinstance(node.ctx, ast.Store)}
    methods = {part.name for other in trees.values() for part in methods_in(other)}
    called = {id(node.func) for node in ast.walk(tree) if isinstance(node, ast.Call)}
    for part in methods_in(tree):
        if part.name in assigned:
            yield part.lineno, "L18 method and attribute"
        if part.name.startswith("__") and part.name not in ("__init__", "__eq__"):
            yield part.lineno, "L5 method"
        if hasattr_of_builtins(part.name) and part.name not in METHODS:
            yield part.lineno, "L26 method"
        if part.name == "__eq__" and any(isinstance(node, (ast.Assign, ast.AugAssign)) for node in ast.walk(part)):
            yield part.lineno, "L28"
    for node in ast.walk(tree):
        if isinstance(node, ast.Attribute) and id(node) not in called:
            if node.attr not in assigned | methods:
                yield node.lineno, "L18 not assigned"
            if isinstance(node.ctx, ast.Store) and hasattr_of_builtins(node.attr) and node.attr not in FREE_ATTRIBUTES:
                yield node.lineno, "L26 attribute"


def hasattr_of_builtins(name):
    plain = not name.startswith("__")
    return plain and any(hasattr(value, name) for value in ("", 0, [], {}, set(), b"", ValueError()))


def is_singleton(node):
    return isinstance(node, ast.Constant) and (node.value is None or isinstance(node.value, bool))


def is_plain_raise(node):
    return node.exc is None or isinstance(node.exc, ast.Call) and isinstance(node.exc.func, ast.Name)


def is_plain_handler(node):
    named = node.type.elts if isinstance(node.type, ast.Tuple) else [node.type]
    return named != [] and all(
        isinstance(part, ast.Name) and part.id not in ("Exception", "TypeError", "BaseException") for part in named)


def names_in(node):
    if isinstance(node, ast.Name):
        return [node.id]
    if isinstance(node, (ast.FunctionDef, ast.ClassDef)):
        return [node.name]
    if isinstance(node, ast.arg):
        return [node.arg]
    if isinstance(node, ast.Attribute):
        return [node.attr]
    if isinstance(node, ast.alias):
        return [node.asname or node.name]
    return []


def import_breaks(tree, trees):
    for node in ast.walk(tree):
        if isinstance(node, ast.Import):
            yield node.lineno, "L16 form"
        if isinstance(node, ast.ImportFrom) and node.module != "__future__":
            source = trees.get(file_of(node))
            if source is None or node.level:
                yield node.lineno, "L2 source"
            elif not {alias.name for alias in node.names} <= defined_in(source):
                yield node.lineno, "L16 definer"


def file_of(node):
    return (node.module or "").removeprefix(PACKAGE + ".") + ".py"


def defined_in(tree):
    found = {node.name for node in tree.body if isinstance(node, (ast.FunctionDef, ast.ClassDef))}
    return found | {node.targets[0].id for node in tree.body if isinstance(node, ast.Assign)}


def reached(name, trees):
    """The files that a file imports, directly or through others."""
    found = set()
    waiting = [name]
    while waiting:
        for node in ast.walk(trees[waiting.pop()]):
            if isinstance(node, ast.ImportFrom) and file_of(node) in trees and file_of(node) not in found:
                found.add(file_of(node))
                waiting.append(file_of(node))
    return found
