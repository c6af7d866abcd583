"""L5: what operators, properties and the like run changes nothing but lists and dicts that it created itself."""

import ast

from tests.language_rules import MUTATORS, changes_in, root_of

PURE = set("""__eq__ __len__ __str__ __repr__ __contains__ __and__ __or__ __sub__ __add__ __lt__ __bool__""".split())


def tables(sources):
    """For each name of a function or method its nodes, and for each class its __init__."""
    named = {}
    starts = []
    for name, source in sources.items():
        tree = ast.parse(source)
        for node in tree.body:
            if isinstance(node, ast.FunctionDef):
                named.setdefault(node.name, []).append((name, node))
            if isinstance(node, ast.ClassDef):
                for part in node.body:
                    if not isinstance(part, ast.FunctionDef):
                        continue
                    named.setdefault(part.name, []).append((name, part))
                    marks = {mark.id for mark in part.decorator_list}
                    if part.name in PURE or "property" in marks:
                        starts.append((name, part))
                    if part.name == "__init__":
                        named.setdefault(node.name, []).append((name, part))
    return named, starts


def reached(sources):
    """All functions that operators, properties and the like run, by their names."""
    named, waiting = tables(sources)
    found = {}
    while waiting:
        name, node = waiting.pop()
        if id(node) in found:
            continue
        found[id(node)] = (name, node)
        for part in ast.walk(node):
            if isinstance(part, ast.Call):
                word = part.func.id if isinstance(part.func, ast.Name) else getattr(part.func, "attr", "")
                waiting += named.get(word, [])
    return list(found.values())


def own_values(function):
    """The local names that are assigned lists and dicts which the function creates itself."""
    own = set()
    for node in ast.walk(function):
        if isinstance(node, ast.Assign) and len(node.targets) == 1 and isinstance(node.targets[0], ast.Name):
            value = node.value
            called = isinstance(value, ast.Call) and isinstance(value.func, ast.Name)
            if isinstance(value, (ast.List, ast.Dict, ast.ListComp)) or (
                    called and value.func.id in ("list", "dict", "sorted")):
                own.add(node.targets[0].id)
    return own


def assigned_otherwise(function, word):
    """Whether a name is also assigned something that the function does not create."""
    for node in ast.walk(function):
        if isinstance(node, ast.Assign) and any(isinstance(part, ast.Name) and part.id == word
                                                for part in node.targets):
            value = node.value
            called = isinstance(value, ast.Call) and isinstance(value.func, ast.Name)
            if not isinstance(value, (ast.List, ast.Dict, ast.ListComp)) and not (
                    called and value.func.id in ("list", "dict", "sorted")):
                return True
    return any(arg.arg == word for arg in function.args.args)


def purity_rules(sources):
    found = []
    for name, function in reached(sources):
        own = own_values(function)
        params = {arg.arg for arg in function.args.args} | {"self"}
        for root, node in changes_in(function):
            is_start = function.name == "__init__" and isinstance(node, ast.Attribute) and root == "self"
            if not is_start and (root not in own or assigned_otherwise(function, root)):
                found.append(f"{name}:{node.lineno}: L5 {function.name} changes {root}")
            if isinstance(node, ast.Call) and node.func.attr in MUTATORS & {"sort", "add", "discard"}:
                found.append(f"{name}:{node.lineno}: L5 {function.name} calls {node.func.attr}")
            base = node.func.value if isinstance(node, ast.Call) else node.value
            if not is_start and not isinstance(base, ast.Name):
                found.append(f"{name}:{node.lineno}: L5 {function.name} changes an inner value of {root}")
        for node in ast.walk(function):
            if isinstance(node, ast.AugAssign) and not isinstance(node.value, ast.Constant):
                found.append(f"{name}:{node.lineno}: L5 {function.name}: {ast.unparse(node)}")
            if isinstance(node, ast.Call) and isinstance(node.func, ast.Name) and node.func.id in params:
                found.append(f"{name}:{node.lineno}: L5 {function.name} calls what it is passed")
            if isinstance(node, (ast.Yield, ast.YieldFrom)):
                found.append(f"{name}:{node.lineno}: L5 {function.name} yields")
    return found
