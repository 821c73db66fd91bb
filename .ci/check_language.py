"""Looks for the breaches of the language rules (L1 to L28) that are easy to find; it finds by no means all."""

import ast
import pathlib
import re
import sys

FOLDER = pathlib.Path(__file__).resolve().parent.parent / "eyeorder"

BUILTINS = set(
    "len range enumerate zip min max sum abs sorted reversed int str bool bytes list tuple dict set frozenset "
    "isinstance ord repr any all divmod pow getattr hasattr setattr iter next map type super "
    "property staticmethod classmethod "
    "Exception ValueError TypeError KeyError IndexError LookupError ZeroDivisionError ArithmeticError "
    "OverflowError RuntimeError NotImplementedError AttributeError StopIteration NotImplemented".split()
)
LIBRARY = {"heapq", "math", "itertools", "collections"}
BARRED = re.compile(
    r"\b(type|typing|typing_extensions|enum|Enum|IntEnum|StrEnum|Flag|IntFlag|Generic|Protocol|ABC|ABCMeta"
    r"|namedtuple|NamedTuple|TypedDict|TYPE_CHECKING|abstractmethod)\b|dataclass|overload|contextmanager"
)
STATEMENTS = (ast.AsyncFunctionDef, ast.AsyncFor, ast.AsyncWith, ast.Import, ast.Div, ast.Await)


def text_breaches(text):
    if re.search(r"[^\n -~]", text):
        yield 0, "L14: a character other than the space to ~"
    lines = text.split("\n")
    if len(lines) - 1 > 399:
        yield 0, "L10: more than 399 lines"
    for number, line in enumerate(lines, 1):
        if len(line) > 120:
            yield number, "L10: a line of more than 120 characters"
        if re.search(r"_wall\b|_WallAttr", line):
            yield number, "L12: the word _wall, or one that ends with it"
        if BARRED.search(line.split("#")[0]):
            yield number, "L17: a barred word"


def node_breaches(node):
    if isinstance(node, (ast.FunctionDef, ast.Lambda)) and node.end_lineno - node.lineno >= 40:
        yield "L10: a function of more than 40 lines"
    if isinstance(node, STATEMENTS):
        yield "L2, L6, L7: " + type(node).__name__
    if isinstance(node, ast.ImportFrom):
        own = node.level == 0 and node.module.startswith("eyeorder.")
        if not own and node.module not in LIBRARY or node.names[0].name == "*":
            yield "L2: an import from " + str(node.module)
    if isinstance(node, ast.Constant) and isinstance(node.value, (float, complex)):
        yield "L7: a float"
    if isinstance(node, ast.Constant) and isinstance(node.value, str) and "%" in node.value:
        yield "L27: the character % in a string"
    if isinstance(node, ast.Name):
        builtin = node.id in dir(__builtins__)
        if builtin and (node.id not in BUILTINS or not isinstance(node.ctx, ast.Load)):
            yield "L8, L15: the builtin " + node.id
    if isinstance(node, ast.arg) and node.arg in dir(__builtins__):
        yield "L15: a parameter with the name of a builtin: " + node.arg


def taken_names(tree):
    """The names of the imports and the classes of a file, which nothing else in it may have."""
    imports = [alias.name for node in tree.body if isinstance(node, ast.ImportFrom) for alias in node.names]
    return {*imports, *[node.name for node in tree.body if isinstance(node, ast.ClassDef)]}


def name_breaches(node, taken):
    if isinstance(node, ast.arg) and node.arg in taken:
        yield "L15: a parameter with the name of an import or a class: " + node.arg
    if isinstance(node, ast.Name) and isinstance(node.ctx, ast.Store) and node.id in taken:
        yield "L15: a variable with the name of an import or a class: " + node.id


def class_breaches(node):
    """A name that is a method and an attribute of one class, and attributes that L26 does not let stand."""
    if not isinstance(node, ast.ClassDef):
        return
    methods = {part.name for part in node.body if isinstance(part, ast.FunctionDef)}
    for part in ast.walk(node):
        if isinstance(part, ast.Attribute) and isinstance(part.ctx, ast.Store):
            if part.attr in methods or part.attr in dir(list) + dir(dict) + dir(str) + ["args"]:
                yield "L18, L26: the attribute " + part.attr


def breaches(path):
    text = path.read_text(encoding="utf-8")
    yield from text_breaches(text)
    tree = compile(text, str(path), "exec", ast.PyCF_ONLY_AST)
    taken = taken_names(tree)
    for node in ast.walk(tree):
        for breach in [*node_breaches(node), *name_breaches(node, taken), *class_breaches(node)]:
            yield getattr(node, "lineno", 0), breach


def main():
    told = []
    for path in sorted(FOLDER.rglob("*")):
        if path.is_dir() and path.name != "__pycache__" and not (path / "__init__.py").exists():
            told.append(f"{path}: L14: no __init__.py")
        if path.is_dir() or path.parent.name == "__pycache__":
            continue
        if not re.fullmatch(r"[a-z0-9_]+\.py", path.name):
            told.append(f"{path}: L1, L14: not a plainly named .py file")
            continue
        told += [f"{path}:{number}: {breach}" for number, breach in breaches(path)]
    print("\n".join(told) if told else "no breach of the language rules found")
    sys.exit(1 if told else 0)


main()
