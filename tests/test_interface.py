"""The names that the document lists stand in the very files and classes under which it lists them."""

import importlib
import inspect
import unittest

FUNCTIONS = {
    "twozeros.totals": {"total": ["first", "rest"]},
    "twozeros.halves": {
        "packed": ["width", "halves"], "half_total": ["width", "halves"], "joined": ["width", "pieces"],
    },
    "twozeros.formulas": {"named": ["name"], "number": ["c"], "full": []},
    "twozeros.forms": {
        "form_of": ["formula"], "complement_forms": ["formula"], "is_empty_when": ["formula", "empties", "zeros"],
    },
    "twozeros.sayings": {
        "same": ["e", "f"], "like": ["e", "f"], "is_empty": ["e"], "is_full": ["e"], "yes": [], "no": [],
        "all_of": ["sayings"], "any_of": ["sayings"], "follows": ["s", "t"],
    },
    "twozeros.stairs": {
        "stairs": ["rows"], "is_stairs": ["rows", "thing"], "solutions": ["rows", "constants", "width"],
        "solution": ["rows", "constants", "width"], "listed": ["rows", "constants", "width"], "order_of": ["number"],
        "shared": ["number", "width"],
    },
    "twozeros.counts": {
        "weights": ["saying"], "count": ["saying", "width"], "example": ["saying", "width"],
        "examples": ["saying", "width"], "weighted": ["saying", "name", "words", "width"],
    },
    "twozeros.tables": {
        "table": ["saying"], "always": ["saying"], "sometimes": ["saying"], "exactly": ["saying", "numbers"],
        "compared": ["one", "other"],
    },
    "twozeros.papers": {
        "paper": ["saying"], "is_paper": ["saying", "thing"], "counted": ["saying", "thing", "width"],
        "table_of": ["saying", "thing"],
    },
    "twozeros.messages": {"edited": ["message", "rows"]},
    "twozeros.chains": {
        "lost": ["chain", "layout", "before", "behind", "check"], "masked": ["chain", "layout", "before", "behind", "check"],
        "lost_at": ["chain", "layout", "before", "behind", "check", "width"],
        "summed_anew": ["chain", "layout", "check", "places"],
        "fewest_anew": ["chain", "layout", "before", "behind", "check"], "same_behind": ["one", "other", "layout"],
    },
    "twozeros.rings": {
        "fillings": ["ring", "width", "words"], "fills": ["ring", "width", "words", "filling"], "unique": ["ring"],
        "exact": ["ring"],
    },
    "twozeros.renewing": {
        "renewed": ["ring", "checks"], "right": ["ring", "checks"], "mends": ["ring", "content", "checks"],
        "right_rows": ["ring"], "least_mend": ["ring", "content"],
    },
}

METHODS = {
    ("twozeros.words", "Word"): {
        "__init__": ["self", "width", "value"], "empty": ["width"], "full": ["width"], "read": ["text"],
        "like": ["self", "other"], "__str__": ["self"], "__repr__": ["self"], "__bool__": ["self"], "__abs__": ["self"],
        "__invert__": ["self"], "__add__": ["self", "other"], "__radd__": ["self", "other"],
        "__sub__": ["self", "other"], "__rsub__": ["self", "other"], "__xor__": ["self", "other"],
        "__rxor__": ["self", "other"], "__mul__": ["self", "other"], "__rmul__": ["self", "other"],
        "__lshift__": ["self", "other"], "__rshift__": ["self", "other"], "__eq__": ["self", "other"],
        "__lt__": ["self", "other"], "__le__": ["self", "other"], "__gt__": ["self", "other"],
        "__ge__": ["self", "other"],
    },
    ("twozeros.totals", "Running"): {
        "__init__": ["self", "width"], "add": ["self", "word"], "drop": ["self", "word"],
        "exchange": ["self", "old", "new"], "ascending": ["self"], "trial": ["self"], "tried": ["self", "ask"],
        "__len__": ["self"], "__contains__": ["self", "x"], "__iadd__": ["self", "other"],
        "__isub__": ["self", "other"],
    },
    ("twozeros.formulas", "Formula"): {
        "read": ["text"], "replaced": ["self", "formulas"], "value_at": ["self", "width", "words"], "__str__": ["self"],
        "__eq__": ["self", "other"], "__invert__": ["self"], "__add__": ["self", "other"], "__radd__": ["self", "other"],
        "__sub__": ["self", "other"], "__rsub__": ["self", "other"], "__mul__": ["self", "other"],
        "__rmul__": ["self", "other"], "__lshift__": ["self", "other"], "__rshift__": ["self", "other"],
    },
    ("twozeros.forms", "Form"): {
        "__init__": ["self", "numbers", "constant", "scale"], "normal": ["self"], "without": ["self", "names"],
        "row": ["self", "names"], "rest_at": ["self", "width", "words"], "__str__": ["self"], "__eq__": ["self", "other"],
        "__bool__": ["self"], "__neg__": ["self"], "__add__": ["self", "other"], "__sub__": ["self", "other"],
        "__mul__": ["self", "other"], "__rmul__": ["self", "other"],
    },
    ("twozeros.sayings", "Saying"): {
        "read": ["text"], "holds_at": ["self", "width", "words"], "replaced": ["self", "formulas"], "forms": ["self"],
        "truth": ["self", "empties", "zeros"], "__str__": ["self"], "__eq__": ["self", "other"], "__invert__": ["self"],
        "__and__": ["self", "other"], "__xor__": ["self", "other"], "__or__": ["self", "other"],
    },
    ("twozeros.stairs", "Stairs"): {
        "__init__": ["self", "left", "right", "left_back", "right_back", "divisors"],
    },
    ("twozeros.widthsets", "Widths"): {
        "every": [], "none": [], "of": ["widths"], "from_width": ["w"], "multiples": ["k"], "dividing": ["q"],
        "told": ["head", "start", "length", "divisors"], "read": ["text"], "least": ["self", "start"],
        "up_to": ["self", "n"], "kth": ["self", "k"], "first": ["self", "n"], "walk": ["self"], "parted": ["self", "t"],
        "__contains__": ["self", "x"], "__and__": ["self", "other"], "__or__": ["self", "other"],
        "__sub__": ["self", "other"], "__xor__": ["self", "other"], "__invert__": ["self"], "__le__": ["self", "other"],
        "__lt__": ["self", "other"], "__ge__": ["self", "other"], "__gt__": ["self", "other"],
        "__eq__": ["self", "other"], "__bool__": ["self"], "__str__": ["self"],
    },
    ("twozeros.tables", "Table"): {
        "count_at": ["self", "width"], "polynomial": ["self", "width"], "classes": ["self"], "__eq__": ["self", "other"],
    },
    ("twozeros.layouts", "Layout"): {
        "__init__": ["self", "words", "checks"], "covered": ["self", "check"], "fresh": ["self", "check", "never_empty"],
        "flat": ["self", "check"], "__eq__": ["self", "other"],
    },
    ("twozeros.messages", "Message"): {
        "__init__": ["self", "layout", "width", "values"], "__getitem__": ["self", "at"],
        "__setitem__": ["self", "at", "worth"], "__contains__": ["self", "x"], "__len__": ["self"], "all_words": ["self"],
        "set_bits": ["self", "width"], "renew": ["self", "check"], "sum_of": ["self", "check"], "editing": ["self"],
        "tried": ["self", "ask"], "twin": ["self"], "__eq__": ["self", "other"],
    },
    **{
        ("twozeros.receivers", name): {
            "__call__": ["self", "message", "check"], "saying": ["self", "layout", "check"],
            "takes_all": ["self", "message"], "__eq__": ["self", "other"], **more,
        }
        for name, more in {
            "Receiver": {"of": ["word"]}, "Summing": {"__init__": ["self"]}, "Resting": {"__init__": ["self"]},
            "Comparing": {"__init__": ["self"]}, "Sparing": {"__init__": ["self"]},
        }.items()
    },
    ("twozeros.boxes", "Box"): {
        "__init__": ["self", "name", "writes"], "of": ["name", "writes"], "__call__": ["self", "message", "news"],
        "__eq__": ["self", "other"],
    },
    ("twozeros.boxes", "Look"): {"__init__": ["self", "name", "test", "writes"]},
    ("twozeros.boxes", "Mend"): {"__init__": ["self", "name", "check", "word", "new", "sort"]},
    ("twozeros.boxes", "LookMend"): {"__init__": ["self", "name", "test", "check", "word", "new", "sort"]},
    ("twozeros.boxes", "Anew"): {"__init__": ["self", "name", "layout", "check"]},
    ("twozeros.chains", "Chain"): {
        "__init__": ["self", "boxes"], "of": ["boxes"], "__call__": ["self", "message", "news"],
        "formulas": ["self", "layout"], "news": ["self", "layout"], "arrives": ["self", "layout", "receiver", "check"],
        "__add__": ["self", "other"], "__len__": ["self"], "__eq__": ["self", "other"],
    },
    ("twozeros.rings", "Ring"): {
        "__init__": ["self", "contents", "covers", "summed"], "sum_of": ["self", "check"], "wish": ["self", "check"],
        "__eq__": ["self", "other"],
    },
    ("twozeros.desk", "Desk"): {
        "__init__": ["self"], "say": ["self", "line"], "run": ["self", "lines"], "__len__": ["self"],
    },
}

KINDS = {
    ("twozeros.words", "Word"): {"empty": staticmethod, "full": staticmethod, "read": classmethod, "MOST_WIDTH": int},
    ("twozeros.totals", "Running"): {"total": property},
    ("twozeros.formulas", "Formula"): {"read": classmethod, "MOST_SIZE": int},
    ("twozeros.forms", "Form"): {"numbers": property, "constant": property, "scale": property, "names": property},
    ("twozeros.sayings", "Saying"): {"read": classmethod, "MOST_SIZE": int},
    ("twozeros.widthsets", "Widths"): {
        "every": staticmethod, "none": staticmethod, "from_width": staticmethod, "multiples": staticmethod,
        "dividing": staticmethod, "told": staticmethod, "read": classmethod, "MOST": int, "head": property,
        "start": property, "length": property, "divisors": property, "is_finite": property, "density": property,
    },
    ("twozeros.tables", "Table"): {"start": property, "length": property},
    ("twozeros.layouts", "Layout"): {"names": property},
    ("twozeros.messages", "Message"): {"bits": property},
    ("twozeros.receivers", "Receiver"): {"of": staticmethod, "WORDS": tuple},
    ("twozeros.boxes", "Box"): {"of": classmethod, "names": property},
    ("twozeros.chains", "Chain"): {"of": classmethod},
    ("twozeros.rings", "Ring"): {"fits": property, "layers": property},
    ("twozeros.desk", "Desk"): {"kept_names": property},
}

BY_NAME_ALONE = {
    ("twozeros.layouts", "Layout", "fresh"): {"never_empty": False},
    ("twozeros.boxes", "Mend", "__init__"): {"sort": "careful"},
    ("twozeros.boxes", "LookMend", "__init__"): {"sort": "careful"},
    ("twozeros.rings", "Ring", "__init__"): {"summed": ()},
}


def parameters(function):
    return list(inspect.signature(function).parameters)


class Interface(unittest.TestCase):
    def test_functions(self):
        for module, listed in FUNCTIONS.items():
            for name, names in listed.items():
                with self.subTest(module=module, name=name):
                    function = getattr(importlib.import_module(module), name)
                    self.assertTrue(inspect.isfunction(function))
                    self.assertEqual((function.__module__, function.__name__), (module, name))
                    self.assertEqual(parameters(function), names)

    def test_methods(self):
        for (module, class_name), listed in METHODS.items():
            made = getattr(importlib.import_module(module), class_name)
            self.assertEqual((made.__module__, made.__name__), (module, class_name))
            for name, names in listed.items():
                with self.subTest(class_name=class_name, name=name):
                    self.assertIn(name, vars(made))
                    self.assertEqual(parameters(getattr(made, name)), names)

    def test_kinds_of_methods(self):
        for (module, class_name), listed in KINDS.items():
            made = getattr(importlib.import_module(module), class_name)
            for name, kind in listed.items():
                with self.subTest(class_name=class_name, name=name):
                    self.assertIsInstance(vars(made)[name], kind)

    def test_parameters_that_are_passed_by_name_alone(self):
        for (module, class_name, name), listed in BY_NAME_ALONE.items():
            method = getattr(getattr(importlib.import_module(module), class_name), name)
            told = inspect.signature(method).parameters.values()
            found = {part.name: part.default for part in told if part.kind is inspect.Parameter.KEYWORD_ONLY}
            self.assertEqual(found, listed)


if __name__ == "__main__":
    unittest.main()
