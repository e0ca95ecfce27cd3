"""Formulas and sayings as nested tuples, made at random and read by the plainest reading of the document."""

import ast
import random

from tests.values import added, added_times, bits_of, turned_bits
from twozeros.formulas import full, named, number
from twozeros.sayings import is_empty, is_full, like, no, same, yes

SIMPLE = {"same": 2, "like": 2, "isempty": 1, "isfull": 1, "yes": 0, "no": 0}
SIGNS = {ast.Add: "+", ast.Sub: "-", ast.Mult: "*", ast.LShift: "<<", ast.RShift: ">>", ast.Invert: "~",
         ast.BitAnd: "&", ast.BitXor: "^", ast.BitOr: "|"}


def random_tree(chance, size, names="abc"):
    """A formula of this size."""
    if size == 1:
        return chance.choice([chance.choice(names)] * 4 + [chance.randrange(16), "full"])
    sign = chance.choice("~*<>" if size == 2 else "~*<>+-+-+-")
    if sign == "~":
        return "~", random_tree(chance, size - 1, names)
    if sign == "*":
        return "*", chance.randrange(1, 10), random_tree(chance, size - 1, names)
    if sign in "<>":
        return sign * 2, random_tree(chance, size - 1, names), chance.randrange(16)
    left = chance.randrange(1, size - 1)
    return sign, random_tree(chance, left, names), random_tree(chance, size - 1 - left, names)


def random_saying_tree(chance, many, size=4, names="abc"):
    """A saying with so many simple sayings, of formulas of this size at most."""
    if many == 1:
        word = chance.choice(["same", "like", "isempty", "isfull"] * 4 + ["yes", "no"])
        tree = (word, *[random_tree(chance, chance.randint(1, size), names) for _ in range(SIMPLE[word])])
        return ("~", tree) if chance.random() < 0.2 else tree
    left = chance.randrange(1, many)
    parts = [random_saying_tree(chance, part, size, names) for part in (left, many - left)]
    tree = (chance.choice("&^|"), *parts)
    return ("~", tree) if chance.random() < 0.3 else tree


def formula_of(tree):
    """The formula, made by operators."""
    if isinstance(tree, int):
        return number(tree)
    if isinstance(tree, str):
        return full() if tree == "full" else named(tree)
    sign = tree[0]
    if sign == "~":
        return ~formula_of(tree[1])
    if sign == "*":
        return tree[1] * formula_of(tree[2])
    if sign == "<<":
        return formula_of(tree[1]) << tree[2]
    if sign == ">>":
        return formula_of(tree[1]) >> tree[2]
    left, right = formula_of(tree[1]), formula_of(tree[2])
    return left + right if sign == "+" else left - right


def saying_of(tree):
    """The saying, made by operators."""
    sign, *parts = tree
    if sign in SIMPLE:
        made = {"same": same, "like": like, "isempty": is_empty, "isfull": is_full, "yes": yes, "no": no}[sign]
        return made(*[formula_of(part) for part in parts])
    sayings = [saying_of(part) for part in parts]
    if sign == "~":
        return ~sayings[0]
    if sign == "&":
        return sayings[0] & sayings[1]
    return sayings[0] ^ sayings[1] if sign == "^" else sayings[0] | sayings[1]


def value_of(tree, width, words):
    """The value of a formula, step by step."""
    most = 2 ** width - 1
    if isinstance(tree, int):
        return added_times(width, tree, 1)
    if isinstance(tree, str):
        return most if tree == "full" else words[tree]
    sign = tree[0]
    if sign == "~":
        return most - value_of(tree[1], width, words)
    if sign == "*":
        return added_times(width, tree[1], value_of(tree[2], width, words))
    if sign in ("<<", ">>"):
        bits = bits_of(width, value_of(tree[1], width, words))
        return int(turned_bits(bits, tree[2] if sign == "<<" else -tree[2]), 2)
    left, right = value_of(tree[1], width, words), value_of(tree[2], width, words)
    return added(width, left, right if sign == "+" else most - right)


def truth_of(tree, width, words):
    """Whether a saying is true, step by step."""
    sign, *parts = tree
    most = 2 ** width - 1
    if sign in SIMPLE:
        found = [value_of(part, width, words) for part in parts]
        return {
            "same": lambda: found[0] == found[1], "like": lambda: (found[0] - found[1]) % most == 0,
            "isempty": lambda: found[0] == 0, "isfull": lambda: found[0] == most,
            "yes": lambda: True, "no": lambda: False,
        }[sign]()
    truths = [truth_of(part, width, words) for part in parts]
    if sign == "~":
        return not truths[0]
    return {"&": all(truths), "^": truths[0] != truths[1], "|": any(truths)}[sign]


def size_of(tree):
    """How many names, numbers, fulls, simple sayings and operations there are."""
    if isinstance(tree, (int, str)):
        return 1
    if tree[0] == "*":
        return 1 + size_of(tree[2])
    if tree[0] in ("<<", ">>"):
        return 1 + size_of(tree[1])
    return 1 + sum(size_of(part) for part in tree[1:])


def read_by_python(text):
    """The tree of a text, as Python itself reads it; None where Python reads no such text."""
    try:
        return tree_of(ast.parse(text, mode="eval").body)
    except (SyntaxError, KeyError, TypeError, AttributeError):
        return None


def tree_of(node):
    if isinstance(node, ast.Constant):
        return node.value
    if isinstance(node, ast.Name):
        return (node.id,) if node.id in ("yes", "no") else node.id
    if isinstance(node, ast.Call):
        return (node.func.id, *[tree_of(part) for part in node.args])
    if isinstance(node, ast.UnaryOp):
        return SIGNS[type(node.op)], tree_of(node.operand)
    return SIGNS[type(node.op)], tree_of(node.left), tree_of(node.right)


def without_a_pair(text):
    """The texts that have one pair of brackets less, but for those behind a word."""
    opened = []
    for at, letter in enumerate(text):
        if letter == "(":
            opened.append(at)
        if letter == ")":
            start = opened.pop()
            if start == 0 or not text[start - 1].isalpha():
                yield text[:start] + text[start + 1:at] + text[at + 1:]


def chances(seed):
    return random.Random(seed)
