"""The names and arguments of the interface, and the form of the files of the package."""

import ast
import importlib
import inspect
import pathlib
import unittest

PACKAGE = pathlib.Path(__file__).resolve().parent.parent / "spanrounds"

INTERFACE = {
    "rows": {
        "is_row": "(value)",
        "hinderer": "(row, place)",
        "span_of": "(row, place)",
        "row_after": "(row, *, rounds=1)",
        "rows_of": "(row)",
    },
    "settling": {
        "is_still": "(row)",
        "final_row": "(row)",
        "rounds_needed": "(row)",
        "rounds_at": "(row, place)",
        "most_rounds": "(size)",
        "slowest_row": "(size)",
        "meeting": "(row, other_row)",
    },
    "forests": {
        "is_spans": "(value)",
        "parent_of": "(spans, place)",
        "children_of": "(spans, place)",
        "roots_of": "(spans)",
        "to_brackets": "(spans)",
        "from_brackets": "(text)",
        "stretch_of": "(spans, place)",
    },
    "counting": {
        "count_spans": "(size)",
        "count_still": "(size)",
        "nth_spans": "(size, number)",
        "spans_number": "(spans)",
        "nth_still": "(size, number)",
        "still_number": "(row)",
    },
    "orders": {
        "count_orders": "(spans)",
        "nth_order": "(spans, number)",
        "order_number": "(order)",
        "count_rows": "(spans, *, below)",
    },
    "reading": {
        "relation": "(spans, place, other)",
        "example": "(spans, place, other, *, sign)",
        "is_certain": "(spans, place, other)",
    },
    "weights": {
        "is_weights": "(row, value)",
        "weighted_after": "(row, weights, *, rounds=1)",
        "weighted_needed": "(row, weights)",
    },
    "long": {
        "is_blocks": "(value)",
        "long_after": "(blocks, *, rounds=1)",
        "long_entry": "(blocks, place, *, rounds=1)",
        "long_count": "(blocks, entry, *, rounds=1)",
        "long_needed": "(blocks)",
    },
    "live": {
        "LiveRow": "(row)",
    },
    "texts": {
        "show_row": "(row)",
        "read_row": "(text)",
    },
    "console": {
        "Console": "()",
    },
}

# The methods of each class as they are called off an object, or off the class.
METHODS = {
    ("live", "LiveRow"): {
        "of": "(*entries)",
        "still": "(size, *, number=0)",
        "play": "(*, rounds=1)",
        "put": "(place, entry)",
        "take": "(place)",
        "change": "(place, entry)",
        "undo": "()",
        "log": "()",
        "preview": "(*operations)",
        "__len__": "()",
        "__eq__": "(other)",
    },
    ("console", "Console"): {
        "say": "(command)",
    },
}
CREATED = {"LiveRow": ((4, 2, 3),), "Console": ()}
PROPERTIES = ["row", "spans", "stands"]


class Interface(unittest.TestCase):
    def test_names_and_arguments(self):
        for name, functions in INTERFACE.items():
            module = importlib.import_module("spanrounds." + name)
            for function, arguments in functions.items():
                self.assertEqual(str(inspect.signature(getattr(module, function))), arguments, function)

    def test_each_is_defined_in_its_file(self):
        for name, functions in INTERFACE.items():
            defined = [node.name for node in parsed(PACKAGE / (name + ".py")).body if hasattr(node, "name")]
            self.assertEqual([function for function in functions if function not in defined], [], name)

    def test_methods_and_their_arguments(self):
        for (name, class_name), methods in METHODS.items():
            made = getattr(importlib.import_module("spanrounds." + name), class_name)
            one = made(*CREATED[class_name])
            for method, arguments in methods.items():
                self.assertEqual(str(inspect.signature(getattr(one, method))), arguments, method)
                # In the class itself, not only in a base class.
                self.assertIn(method, vars(made))

    def test_class_methods_properties_and_the_class_value(self):
        made = importlib.import_module("spanrounds.live").LiveRow
        for name in ["of", "still"]:
            self.assertIsInstance(vars(made)[name], classmethod)
        for name in PROPERTIES:
            self.assertIsInstance(vars(made)[name], property)
        self.assertEqual(vars(made)["LIMIT"], 100)

    def test_arguments_behind_a_star_are_passed_by_keyword_only(self):
        live = importlib.import_module("spanrounds.live").LiveRow.of(4, 2, 3)
        long = importlib.import_module("spanrounds.long")
        self.assertRaises(TypeError, live.play, 1)
        self.assertRaises(TypeError, live.still, 3, 1)
        self.assertRaises(TypeError, long.long_after, ((1, 1),), 1)
        self.assertRaises(TypeError, long.long_entry, ((1, 1),), 0, 1)
        self.assertRaises(TypeError, long.long_count, ((1, 1),), 0, 1)
        self.assertEqual([live.row, live.log()], [(4, 2, 3), []])


def parsed(path):
    return ast.parse(path.read_text(encoding="utf-8"))


def files():
    return sorted(path for path in PACKAGE.rglob("*") if path.is_file() and "__pycache__" not in path.parts)


class Form(unittest.TestCase):
    """A part of LANGUAGE.md that a test can see at a glance: of L1, L2, L7, L8, L10, L14 to L16, L25 and L27."""

    def test_files(self):
        for path in files():
            self.assertEqual(path.suffix, ".py")
            text = path.read_text(encoding="utf-8")
            lines = text.split("\n")
            self.assertLessEqual(len(lines), 399, path)
            self.assertLessEqual(max(len(line) for line in lines), 120, path)
            self.assertTrue(all(sign == "\n" or " " <= sign <= "~" for sign in text), path)

    def test_functions_are_short(self):
        for path in files():
            for node in ast.walk(parsed(path)):
                if isinstance(node, ast.FunctionDef):
                    self.assertLessEqual(node.end_lineno - node.lineno + 1, 40, node.name)

    def test_imports_are_of_names_of_the_package_and_make_no_circle(self):
        imported = {}
        for path in files():
            names = []
            for node in ast.walk(parsed(path)):
                self.assertNotIsInstance(node, ast.Import)
                if isinstance(node, ast.ImportFrom):
                    self.assertTrue(node.level == 0 and node.module.startswith("spanrounds."), path)
                    names.append(node.module.split(".")[1])
            imported[path.stem] = names
        while imported:
            free = [name for name, names in imported.items() if not set(names) & set(imported)]
            self.assertNotEqual(free, [], "these files import from each other")
            imported = {name: names for name, names in imported.items() if name not in free}

    def test_no_float_no_slash_no_percent_sign(self):
        for path in files():
            for node in ast.walk(parsed(path)):
                self.assertNotIsInstance(node, ast.Div)
                if isinstance(node, ast.Constant):
                    self.assertNotIsInstance(node.value, (float, complex))
                    self.assertNotIn("%", str(node.value))

    def test_beside_a_class_with_an_eq_no_generator_expression_and_no_sort(self):
        for path in files():
            for node in ast.walk(parsed(path)):
                self.assertNotIsInstance(node, ast.GeneratorExp, path)
                self.assertNotEqual(getattr(node, "attr", ""), "sort", path)

    def test_only_the_builtins_that_are_allowed(self):
        allowed = set(
            "len range enumerate zip min max sum abs sorted reversed int str bool bytes list tuple dict set isinstance"
            " ord repr any all divmod property staticmethod classmethod NotImplemented ValueError KeyError IndexError"
            " LookupError ZeroDivisionError".split()
        )
        # A doctest that ran before leaves its last answer there as _.
        builtins = set(dir(importlib.import_module("builtins"))) - {"_"}
        for path in files():
            for node in ast.walk(parsed(path)):
                if isinstance(node, ast.Name) and node.id in builtins:
                    self.assertIn(node.id, allowed, path)
                    self.assertIsInstance(node.ctx, ast.Load, path)


if __name__ == "__main__":
    unittest.main()
