"""The rules for the files of the package, as far as a short script can look at them.

Each function gets the name and the source of a file, or all of them, and returns a list of complaints.
"""

import ast
import builtins
import io
import re
import tokenize

PACKAGE = "streamwrights"
LIBRARY = {"heapq": {"heappush", "heappop", "heapify", "heapreplace", "heappushpop"},
           "math": {"gcd", "lcm", "isqrt", "comb", "perm", "factorial"},
           "itertools": {"product", "combinations", "permutations"}}
BUILTINS = set("""len range enumerate zip min max sum abs sorted reversed int str bool bytes list tuple dict set
    frozenset isinstance ord repr any all divmod iter next map property classmethod staticmethod super
    Exception ValueError TypeError KeyError IndexError LookupError ZeroDivisionError ArithmeticError OverflowError
    RuntimeError NotImplementedError AttributeError StopIteration NotImplemented""".split())
METHODS = set("""append clear copy count endswith extend find get index insert isalnum isalpha isdigit islower isspace
    isupper items join keys ljust lower lstrip partition pop remove replace reverse rfind rjust rpartition rsplit rstrip
    setdefault split splitlines startswith strip update upper values zfill bit_length add discard""".split())
BARRED_NAMES = set("""register mro elements open input law version_info with_traceback add_note attrgetter breakpoint
    builtins compile copyright credits delattr dir eval exec exit gc getattr globals hasattr help id importlib license
    locals methodcaller os quit setattr type vars sys _wall _WallAttr _cold _tuplegetter _outside _record _written_out
    _member_names""".split())
BARRED_STARTS = ("_wall", "_pe_", "_dcw_", "_enum_", "_cm_", "_twin_re_", "_lay_", "_law_", "_stub_", "_sre")
BARRED_WORDS = set("""type typing typing_extensions enum Enum IntEnum StrEnum Flag IntFlag Generic Protocol ABC ABCMeta
    namedtuple NamedTuple TypedDict TYPE_CHECKING abstractmethod""".split())
BARRED_PARTS = ("dataclass", "overload", "contextmanager", "_wall", "_WallAttr")
DUNDERS = set("""__init__ __eq__ __len__ __str__ __repr__ __contains__ __and__ __or__ __xor__ __sub__ __add__ __mul__
    __lt__ __le__ __gt__ __ge__ __ne__ __neg__ __bool__ __call__ __enter__ __exit__ __iter__ __getitem__
    __setitem__""".split())
MUTATORS = {"append", "clear", "extend", "insert", "pop", "remove", "reverse", "setdefault", "update", "sort", "add",
            "discard"}
LAZY_CALLS = {"zip", "enumerate", "reversed", "range", "map"}
LAZY_METHODS = {"items", "keys", "values"}
TAKERS = {"list", "tuple", "dict", "sorted", "sum", "any", "all", "enumerate", "zip", "min", "max"}


def functions_of(tree):
    return [node for node in ast.walk(tree) if isinstance(node, (ast.FunctionDef, ast.Lambda))]


def file_rules(name, source):
    """L1, L10, L14: names, characters and sizes."""
    found = []
    if not re.fullmatch(r"[a-z][a-z0-9_]*\.py|__init__\.py|__main__\.py", name):
        found.append(f"{name}: L14 name of the file")
    stem = name[:-3]
    if stem in dir(builtins) or stem in BARRED_NAMES or re.match(r"law_|tests?$|test_|testing$|site", stem):
        found.append(f"{name}: L14 barred name of the file")
    lines = source.split("\n")
    if len(lines) - 1 > 399 or not source.endswith("\n"):
        found.append(f"{name}: L10 {len(lines) - 1} lines, or no line feed at the end")
    for number, line in enumerate(lines, 1):
        if len(line) > 120:
            found.append(f"{name}:{number}: L10 line of {len(line)} characters")
        if any(not " " <= sign <= "~" for sign in line):
            found.append(f"{name}:{number}: L14 character")
    for node in ast.walk(ast.parse(source)):
        if isinstance(node, ast.FunctionDef) and node.end_lineno - node.lineno + 1 > 40:
            found.append(f"{name}:{node.lineno}: L10 function {node.name} has more than 40 lines")
    return found


def word_rules(name, source):
    """L17, L27: words and strings."""
    found = []
    for token in tokenize.generate_tokens(io.StringIO(source).readline):
        if token.type == tokenize.COMMENT or (token.type == tokenize.STRING and token.string.startswith('"""')):
            if any(part in token.string for part in ("_wall", "_WallAttr")):
                found.append(f"{name}:{token.start[0]}: L12 word in a comment")
            continue
        words = set(re.findall(r"\w+", token.string))
        if words & BARRED_WORDS or any(part in token.string for part in BARRED_PARTS):
            found.append(f"{name}:{token.start[0]}: L17 barred word in {token.string}")
        if token.type == tokenize.STRING:
            if "%" in token.string or re.search(r"\\[^nt\\'\"]", token.string):
                found.append(f"{name}:{token.start[0]}: L27 string {token.string}")
    for node in ast.walk(ast.parse(source)):
        if isinstance(node, ast.Constant) and isinstance(node.value, str):
            if re.search(r"\._{1,2}$|^__.*__$", node.value):
                found.append(f"{name}:{node.lineno}: L27 string {node.value!r}")
    return found


def import_rules(name, source, defined):
    """L2, L16: imports. defined tells for each module what it defines."""
    found = []
    body = ast.parse(source).body
    start = 1 if body and isinstance(body[0], ast.Expr) else 0
    tops = body[start:]
    while tops and isinstance(tops[0], ast.ImportFrom):
        tops = tops[1:]
    if any(isinstance(node, (ast.Import, ast.ImportFrom)) for top in tops for node in ast.walk(top)):
        found.append(f"{name}: L2 import that does not stand at the top, or of a module")
    for node in body:
        if not isinstance(node, ast.ImportFrom):
            continue
        module = node.module or ""
        for alias in node.names:
            if node.level or alias.asname or alias.name == "*":
                found.append(f"{name}:{node.lineno}: L2 form of the import")
            elif module in LIBRARY:
                if alias.name not in LIBRARY[module]:
                    found.append(f"{name}:{node.lineno}: L2 {alias.name}")
            elif module not in defined or alias.name not in defined[module]:
                found.append(f"{name}:{node.lineno}: L16 {alias.name} is not defined in {module}")
    return found


def cycle_rules(sources):
    """L16: no two files import from each other."""
    reach = {f"{PACKAGE}.{name[:-3]}": {node.module for node in ast.parse(source).body
                                        if isinstance(node, ast.ImportFrom)} for name, source in sources.items()}
    for _ in reach:
        reach = {module: onward | {far for near in onward for far in reach.get(near, ())}
                 for module, onward in reach.items()}
    return [f"{module}: L16 imports itself through others" for module in reach if module in reach[module]]


def module_rules(name, source):
    """L3, L15: what stands at module level, and that each name is bound once."""
    found = []
    bound = []
    for at, node in enumerate(ast.parse(source).body):
        if isinstance(node, (ast.FunctionDef, ast.ClassDef)):
            bound.append(node.name)
        elif isinstance(node, ast.ImportFrom):
            bound.extend(alias.name for alias in node.names)
        elif isinstance(node, ast.Assign) and len(node.targets) == 1 and isinstance(node.targets[0], ast.Name):
            bound.append(node.targets[0].id)
            if any(isinstance(part, (ast.Call, ast.ListComp, ast.Set, ast.SetComp)) for part in ast.walk(node.value)):
                found.append(f"{name}:{node.lineno}: L3 value that is not plain")
        elif not (at == 0 and isinstance(node, ast.Expr) and isinstance(node.value, ast.Constant)):
            found.append(f"{name}:{node.lineno}: L3 statement at module level")
    found += [f"{name}: L15 {bind} is bound twice" for bind in set(bound) if bound.count(bind) > 1]
    return found


def bound_names(tree):
    """All names that a tree binds, with their lines."""
    for node in ast.walk(tree):
        if isinstance(node, ast.Name) and not isinstance(node.ctx, ast.Load):
            yield node.id, node.lineno
        elif isinstance(node, ast.arg):
            yield node.arg, node.lineno
        elif isinstance(node, (ast.FunctionDef, ast.ClassDef)):
            yield node.name, node.lineno


def name_rules(name, source):
    """L12, L15, L17: names."""
    found = []
    tree = ast.parse(source)
    kept = {node.name for node in tree.body if isinstance(node, ast.ClassDef)}
    kept |= {alias.name for node in tree.body if isinstance(node, ast.ImportFrom) for alias in node.names}
    tops = {id(node) for node in tree.body}
    methods = {id(part) for node in tree.body if isinstance(node, ast.ClassDef) for part in node.body}
    for node in ast.walk(tree):
        if isinstance(node, ast.FunctionDef) and id(node) not in tops:
            if id(node) not in methods and node.name in kept:
                found.append(f"{name}:{node.lineno}: L15 {node.name} is a class or an import, too")
    for bind, line in bound_names(tree):
        if bind in BARRED_NAMES or bind.startswith(BARRED_STARTS) or (bind.startswith("__") and bind not in DUNDERS):
            found.append(f"{name}:{line}: L12, L17 name {bind}")
        if bind in dir(builtins):
            found.append(f"{name}:{line}: L15 {bind} is a builtin")
    for node in ast.walk(tree):
        if isinstance(node, ast.Name) and not isinstance(node.ctx, ast.Load) and node.id in kept:
            found.append(f"{name}:{node.lineno}: L15 {node.id} is a class or an import, too")
        if isinstance(node, ast.arg) and node.arg in kept:
            found.append(f"{name}:{node.lineno}: L15 {node.arg} is a class or an import, too")
        if isinstance(node, ast.Name) and node.id in dir(builtins) and node.id not in BUILTINS:
            found.append(f"{name}:{node.lineno}: L8 builtin {node.id}")
        if isinstance(node, ast.Attribute) and node.attr in BARRED_NAMES | {"format", "format_map", "args"}:
            found.append(f"{name}:{node.lineno}: L8, L17, L26 attribute {node.attr}")
        if isinstance(node, ast.Attribute) and node.attr.startswith("__") and node.attr != "__init__":
            found.append(f"{name}:{node.lineno}: L5 {node.attr} by name")
    return found


def node_rules(name, source):
    """L4, L6, L7, L20, L21, L23, L24: what may stand in code; stricter than the rules where that is simpler."""
    found = []
    barred = (ast.Global, ast.Import, ast.AsyncFunctionDef, ast.Await, ast.GeneratorExp, ast.With, ast.NamedExpr,
              ast.AnnAssign, ast.Delete, ast.Match, ast.Nonlocal, ast.Lambda, ast.Div, ast.MatMult)
    for node in ast.walk(ast.parse(source)):
        line = f"{name}:{getattr(node, 'lineno', 0)}"
        if isinstance(node, barred):
            found.append(f"{line}: L6, L7 {node.__class__.__name__}")
        if isinstance(node, ast.Constant) and isinstance(node.value, (float, complex, bytes)):
            found.append(f"{line}: L7 {node.value!r}")
        if isinstance(node, ast.Set) and any(isinstance(part, ast.Starred) for part in node.elts):
            found.append(f"{line}: L7 star in a set")
        if isinstance(node, (ast.FunctionDef, ast.ClassDef)):
            for mark in node.decorator_list:
                if not isinstance(mark, ast.Name) or mark.id not in ("property", "classmethod", "staticmethod"):
                    found.append(f"{line}: L4 decorator")
        if isinstance(node, ast.FunctionDef) and (node.returns or any(arg.annotation for arg in node.args.args)):
            found.append(f"{line}: L21 annotation")
        if isinstance(node, ast.Compare):
            for sign, side in zip(node.ops, node.comparators):
                if isinstance(sign, (ast.Is, ast.IsNot)) and not (isinstance(side, ast.Constant)):
                    found.append(f"{line}: L20 is")
        if isinstance(node, ast.Call):
            found += [f"{line}: {why}" for why in call_complaints(node)]
    return found


def call_complaints(node):
    """What is wrong with one call: builtins, and methods of builtin values."""
    found = []
    called = node.func.id if isinstance(node.func, ast.Name) else None
    keys = {word.arg for word in node.keywords}
    allowed = {"sorted": {"key", "reverse"}, "min": {"key", "default"}, "max": {"key", "default"}, "sum": {"start"},
               "enumerate": {"start"}, "zip": {"strict"}}
    if called in BUILTINS and not keys <= allowed.get(called, set()):
        found.append(f"L22 keywords of {called}")
    if isinstance(node.func, ast.Attribute):
        if node.func.attr in METHODS and keys:
            found.append(f"L25 keywords of {node.func.attr}")
        if node.func.attr == "sort":
            found.append("L25 sort")
    if isinstance(node.func, (ast.Constant, ast.Dict, ast.List)):
        found.append("L7 call of a literal")
    if called == "isinstance" and not isinstance(node.args[1], ast.Name):
        found.append("L22 isinstance")
    return found


def parents_of(tree):
    return {id(part): node for node in ast.walk(tree) for part in ast.iter_child_nodes(node)}


def is_lazy(node):
    if not isinstance(node, ast.Call):
        return False
    if isinstance(node.func, ast.Name):
        return node.func.id in LAZY_CALLS
    return isinstance(node.func, ast.Attribute) and node.func.attr in LAZY_METHODS and not node.args


def lazy_rules(name, source):
    """L23: range, zip and the like are iterated at once (or are what len counts)."""
    found = []
    tree = ast.parse(source)
    parents = parents_of(tree)
    for node in ast.walk(tree):
        if not is_lazy(node):
            continue
        above = parents[id(node)]
        taken = isinstance(above, ast.Call) and isinstance(above.func, ast.Name) and above.func.id in TAKERS
        if taken and above.func.id in ("min", "max") and {word.arg for word in above.keywords} - {"default"}:
            taken = False
        counted = (isinstance(above, ast.Call) and isinstance(above.func, ast.Name) and above.func.id == "len"
                   and node.func.id == "range" if isinstance(node.func, ast.Name) else False)
        looped = isinstance(above, (ast.For, ast.comprehension)) and above.iter is node
        if not (taken or counted or looped):
            found.append(f"{name}:{node.lineno}: L23 {ast.unparse(node)}")
    return found


def set_rules(name, source):
    """L24: sets stand in sorted, in len, or behind in; a name that keeps one is only asked with in."""
    found = []
    tree = ast.parse(source)
    parents = parents_of(tree)
    for node in ast.walk(tree):
        called = isinstance(node, ast.Call) and isinstance(node.func, ast.Name) and node.func.id == "set"
        if not called and not isinstance(node, (ast.Set, ast.SetComp)):
            continue
        above = parents[id(node)]
        if isinstance(above, ast.Call) and isinstance(above.func, ast.Name) and above.func.id in ("sorted", "len"):
            continue
        if isinstance(above, ast.Compare):
            continue
        if isinstance(above, ast.Assign) and len(above.targets) == 1 and isinstance(above.targets[0], ast.Name):
            found += kept_set_complaints(name, parents, above)
            continue
        found.append(f"{name}:{node.lineno}: L24 {ast.unparse(node)}")
    return found


def kept_set_complaints(name, parents, kept):
    """What is done with a kept set but for in and not in."""
    scope = kept
    while not isinstance(scope, ast.FunctionDef):
        scope = parents[id(scope)]
    word = kept.targets[0].id
    found = []
    for node in ast.walk(scope):
        if isinstance(node, ast.Name) and node.id == word and node is not kept.targets[0]:
            above = parents[id(node)]
            if not (isinstance(above, ast.Compare) and isinstance(above.ops[0], (ast.In, ast.NotIn))):
                found.append(f"{name}:{node.lineno}: L24 use of the set {word}")
    return found


def root_of(node):
    """The name at which attributes and items begin, or None."""
    while isinstance(node, (ast.Attribute, ast.Subscript)):
        node = node.value
    return node.id if isinstance(node, ast.Name) else None


def changes_in(tree):
    """Pairs (root, node) for all items and attributes that are assigned, and mutating methods that are called."""
    for node in ast.walk(tree):
        if isinstance(node, (ast.Attribute, ast.Subscript)) and not isinstance(node.ctx, ast.Load):
            yield root_of(node), node
        if isinstance(node, ast.Call) and isinstance(node.func, ast.Attribute) and node.func.attr in MUTATORS:
            yield root_of(node.func.value), node


def loop_rules(name, source):
    """L23: what a loop goes over is not modified in it. Every name in the head of the loop counts."""
    found = []
    for loop in ast.walk(ast.parse(source)):
        if isinstance(loop, ast.For):
            heads = {node.id for node in ast.walk(loop.iter) if isinstance(node, ast.Name)}
            if isinstance(loop.iter, ast.Call) and root_of(loop.iter.func) == "range":
                heads = set()
            for part in loop.body:
                found += [f"{name}:{node.lineno}: L23 {root} is changed in its loop" for root, node in changes_in(part)
                          if root in heads and root != "self"]
        if isinstance(loop, ast.Call) and isinstance(loop.func, ast.Attribute):
            if loop.func.attr in ("extend", "update") and root_of(loop.func.value) in {
                    node.id for arg in loop.args for node in ast.walk(arg) if isinstance(node, ast.Name)}:
                found.append(f"{name}:{loop.lineno}: L5 {loop.func.attr} gets what it changes")
    return found


def dunder_rules(name, source):
    """L5, L28: double-underscore methods."""
    found = []
    for shape in ast.walk(ast.parse(source)):
        if not isinstance(shape, ast.ClassDef):
            continue
        methods = {part.name: part for part in shape.body if isinstance(part, ast.FunctionDef)}
        for word, part in methods.items():
            returns = [node.value for node in ast.walk(part) if isinstance(node, ast.Return)]
            if word == "__init__" and returns:
                found.append(f"{name}:{part.lineno}: L28 __init__ returns")
            if word == "__len__" and not all(re.match(r"len\(|\d+$", ast.unparse(value)) for value in returns):
                found.append(f"{name}:{part.lineno}: L28 __len__")
            if word == "__str__" and not all(re.match(r"'.*'\.join\(|f'|str\(", ast.unparse(value), re.S)
                                             for value in returns):
                found.append(f"{name}:{part.lineno}: L28 __str__")
        held = {node.attr for node in ast.walk(shape) if isinstance(node, ast.Attribute)
                and not isinstance(node.ctx, ast.Load) and root_of(node) == "self"}
        found += [f"{name}: L18 {word} is a method and an attribute" for word in held & set(methods)]
    return found


def shared_name_rules(sources):
    """L18: stricter than the rule: no name is a method of some class and an attribute of some class."""
    methods, held = set(), set()
    for source in sources.values():
        tree = ast.parse(source)
        for shape in ast.walk(tree):
            if isinstance(shape, ast.ClassDef):
                methods |= {part.name for part in shape.body if isinstance(part, ast.FunctionDef)}
        held |= {node.attr for node in ast.walk(tree) if isinstance(node, ast.Attribute)
                 and not isinstance(node.ctx, ast.Load)}
    return [f"L18 {word} is a method and an attribute" for word in sorted(methods & held)]


def one_file_rules(name, source, defined):
    """All complaints about one file."""
    checks = (file_rules, word_rules, module_rules, name_rules, node_rules, lazy_rules, set_rules, loop_rules,
              dunder_rules)
    return [why for check in checks for why in check(name, source)] + import_rules(name, source, defined)
