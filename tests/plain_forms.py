"""Forms of trees as fractions, and when they are EMPTY, by the plainest reading of the document."""

import ast
from fractions import Fraction

from tests.trees import SIMPLE, formula_of, tree_of


def fractions_of(tree):
    """The numbers of the names, and the constant under the name ""; none that is 0."""
    if isinstance(tree, int):
        return cleaned({"": Fraction(tree)})
    if isinstance(tree, str):
        return {} if tree == "full" else {tree: Fraction(1)}
    sign = tree[0]
    if sign == "~":
        return times(-1, fractions_of(tree[1]))
    if sign == "*":
        return times(tree[1], fractions_of(tree[2]))
    if sign == "<<":
        return times(2 ** tree[2], fractions_of(tree[1]))
    if sign == ">>":
        return times(Fraction(1, 2 ** tree[2]), fractions_of(tree[1]))
    return plus(fractions_of(tree[1]), times(1 if sign == "+" else -1, fractions_of(tree[2])))


def cleaned(fractions):
    return {name: worth for name, worth in sorted(fractions.items()) if worth != 0}


def times(k, fractions):
    return cleaned({name: k * worth for name, worth in fractions.items()})


def plus(one, other):
    return cleaned({name: one.get(name, 0) + other.get(name, 0) for name in {*one, *other}})


def parts_of(fractions):
    """The numbers, the constant and the scale."""
    scale = 0
    while any((worth * 2 ** scale).denominator != 1 for worth in fractions.values()):
        scale += 1
    whole = {name: int(worth * 2 ** scale) for name, worth in fractions.items()}
    return {name: worth for name, worth in whole.items() if name}, whole.get("", 0), scale


def normal_of(fractions):
    """The normal form, as a tuple of numbers, and the constant."""
    numbers, constant, _ = parts_of(fractions)
    row = [(name, numbers[name]) for name in sorted(numbers)] + [("", constant)]
    while any(worth for _, worth in row) and all(worth % 2 == 0 for _, worth in row):
        row = [(name, worth // 2) for name, worth in row]
    if [worth for _, worth in row if worth][:1] < [0]:
        row = [(name, -worth) for name, worth in row]
    return tuple(row)


def normal_of_form(form):
    """The same of a Form that is a normal form."""
    return (*[(name, form.numbers[name]) for name in form.names], ("", form.constant))


def complements_of(tree):
    """The operands of the complements of a tree, in the order in which they end in the written form."""
    found = []

    def walk(node, depth):
        if isinstance(node, ast.UnaryOp):
            found.append((node.operand.end_col_offset, -depth, node.operand))
        if isinstance(node, ast.BinOp) and isinstance(node.op, ast.Sub):
            found.append((node.right.end_col_offset, -depth, node.right))
        for part in ast.iter_child_nodes(node):
            walk(part, depth + 1)

    walk(ast.parse(str(formula_of(tree)), mode="eval").body, 0)
    return [tree_of(node) for _, _, node in sorted(found, key=lambda row: row[:2])]


def each_once(normals):
    return [row for at, row in enumerate(normals) if row != (("", 0),) and row not in normals[:at]]


def complement_normals(tree):
    return each_once([normal_of(fractions_of(part)) for part in complements_of(tree)])


def saying_normals(tree):
    """The forms of a saying, as normal forms."""
    sign, *parts = tree
    if sign not in SIMPLE:
        return each_once([row for part in parts for row in saying_normals(part)])
    found = [row for part in parts for row in complement_normals(part)] if sign != "like" else []
    if sign in ("same", "like"):
        found.append(normal_of(plus(fractions_of(parts[0]), times(-1, fractions_of(parts[1])))))
    if sign == "isfull":
        found.append(normal_of(fractions_of(parts[0])))
    return each_once(found)


def is_zero(fractions, zeros):
    return normal_of(fractions) == (("", 0),) or normal_of(fractions) in zeros


def empty_when(tree, empties, zeros):
    """Whether a formula is EMPTY, by the rules alone; zeros are normal forms as tuples."""
    if isinstance(tree, int):
        return tree == 0
    if isinstance(tree, str):
        return tree in empties
    sign = tree[0]
    if sign == "+":
        return empty_when(tree[1], empties, zeros) and empty_when(tree[2], empties, zeros)
    if sign == "-":
        return empty_when(tree[1], empties, zeros) and empty_when(("~", tree[2]), empties, zeros)
    if sign == "~":
        return is_zero(fractions_of(tree[1]), zeros) and not empty_when(tree[1], empties, zeros)
    return empty_when(tree[2] if sign == "*" else tree[1], empties, zeros)


def true_when(tree, empties, zeros):
    """Whether a saying is true, by the rules alone."""
    sign, *parts = tree
    if sign not in SIMPLE:
        truths = [true_when(part, empties, zeros) for part in parts]
        if sign == "~":
            return not truths[0]
        return {"&": all(truths), "^": truths[0] != truths[1], "|": any(truths)}[sign]
    if sign in ("yes", "no"):
        return sign == "yes"
    empty = [empty_when(part, empties, zeros) for part in parts]
    if sign == "isempty":
        return empty[0]
    zero = is_zero(fractions_of(parts[0]), zeros)
    if sign == "isfull":
        return zero and not empty[0]
    zero = is_zero(plus(fractions_of(parts[0]), times(-1, fractions_of(parts[1]))), zeros)
    return zero if sign == "like" else zero and empty[0] == empty[1]
