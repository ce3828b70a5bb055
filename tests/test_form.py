import ast
import builtins
import importlib
import inspect
import os
import re
import unittest

FOLDER = os.path.join(os.path.dirname(os.path.dirname(os.path.abspath(__file__))), "loneseats")
LIBRARY = {"heapq", "math", "itertools", "collections"}
BUILTINS = set("""len range enumerate zip min max sum abs sorted reversed int str bool bytes list tuple dict set
    frozenset isinstance ord repr any all divmod pow getattr hasattr setattr iter next map Exception ValueError
    TypeError KeyError IndexError LookupError ZeroDivisionError ArithmeticError OverflowError RuntimeError
    NotImplementedError AttributeError StopIteration NotImplemented property staticmethod classmethod super
    object""".split())
BARRED = re.compile(r"\b(type|typing|enum|Enum|Flag|Generic|Protocol|ABC|namedtuple|dataclass|global|async)\b")

# The interface: each name with its parameters, of the file under which it is listed.
INTERFACE = {
    "errors": {"LoneError": None, "Wrong": "(place)", "NoEnd": "(end)", "NoSize": "(size)", "NoChoice": None,
               "BadSale": "(at)", "NoSale": "(sale)", "BadStep": "(at)", "Nothing": None, "BadEdit": None,
               "NoText": "(line)", "NoCommand": None},
    "kinds": {"is_integer": "(thing)", "is_number": "(thing)", "is_end": "(thing)", "is_size": "(thing)",
              "are_sizes": "(thing)", "is_stretch": "(thing)", "is_choice": "(thing)", "is_sale": "(thing)"},
    "stretches": {"fits": "(stretch, size, before)", "parts": "(stretch, size, before)", "turned": "(stretch)",
                  "wholes": "(length)"},
    "rules": {"Rule": "(sizes, bad=None, *, soft=False, where='any', offer=0)"},
    "choices": {"possible": "(rule, stretch, size)", "let": "(rule, stretch, size)",
                "offered": "(rule, stretch, size)", "refuses": "(rule, stretch, size)",
                "is_bad": "(rule, stretch, size, before)", "sales": "(rule, stretch)",
                "is_sold": "(rule, stretch, thing)", "is_stuck": "(rule, stretch)"},
    "plans": {"Plan": "(rows)"},
    "plays": {"behind": "(rule, plan, play)", "sales_behind": "(rule, plan, play)", "free_seats": "(rule, plan, play)",
              "is_play": "(rule, plan, thing)", "is_whole": "(rule, plan, thing)", "tally": "(play)"},
    "worths": {"Worth": "(prices=None, free=0, *, until=0)", "may_end": "(rule, worth, stretch)"},
    "totals": {"greatest": "(rule, worth, stretch)", "least": "(rule, worth, stretch)",
               "table": "(rule, worth, left, right, upto, *, is_least=False)",
               "totals_of": "(rule, worth, stretch)", "play_for": "(rule, worth, stretch, *, is_least=False)",
               "left_behind": "(rule, stretch, play)", "total_of": "(rule, worth, stretch, play)"},
    "halls": {"Hall": "(plan, rule)"},
    "sums": {"greatest_in": "(rule, worth, plan)", "least_in": "(rule, worth, plan)",
             "plan_play": "(rule, worth, plan, *, is_least=False)"},
    "items": {"items": "(rule, worth, *, is_least=False)", "best_item": "(rule, worth, *, is_least=False)",
              "rate": "(rule, worth, *, is_least=False)", "is_rate": "(rule, worth, thing, *, is_least=False)"},
    "forms": {"form": "(rule, worth, left, right, *, is_least=False)", "value": "(told, length)"},
    "papers": {"price_lists": "(rule, worth, upto, *, is_least=False)", "paper": "(rule, worth, *, is_least=False)",
               "are_price_lists": "(rule, worth, thing, *, is_least=False)",
               "is_paper": "(rule, worth, thing, *, is_least=False)"},
    "guides": {"guide": "(rule, worth, *, is_least=False)", "is_guide": "(rule, worth, told, thing)"},
    "comes": {"comes": "(rule, stretch)", "is_closed": "(rule, thing)", "way_to": "(rule, stretch, other)",
              "lengths_of": "(rule, left, right, other)"},
    "lone": {"lone_sizes": "(rule, stretch)", "lone_play": "(rule, stretch, size)",
             "is_never_lone": "(rule, stretch, size, thing)", "lone_lengths": "(rule, left, right, size)",
             "hall_refusal": "(rule, plan, size)"},
    "sure": {"sure": "(rule, stretch, *, until=0)", "sure_seats": "(rule, stretch, *, until=0)",
             "sure_in": "(rule, plan, *, until=0)", "least_length": "(rule, left, right, many, *, until=0)",
             "always_from": "(rule, left, right, many, *, until=0)"},
    "compared": {"worse_lengths": "(one, other, worth, left, right, *, is_least=False)",
                 "first_worse": "(one, other, worth, left, right, *, is_least=False)",
                 "widest": "(one, other, worth, left, right, *, is_least=False)",
                 "never_worse": "(one, other, worth, *, is_least=False)"},
    "alikes": {"alike": "(one, other)", "is_parting": "(one, other, thing)", "parting": "(one, other)"},
    "shapes": {"shape": "(sizes, greatest, *, where='any', offer=0)", "ranked": "(rules, worth, *, is_least=False)"},
    "late": {"late_table": "(rules, worth, left, right, upto, *, is_least=False)",
             "late_play": "(rules, worth, stretch, *, is_least=False)",
             "late_total": "(rules, worth, stretch, plays)"},
    "counts": {"is_script": "(rule, plan, counts, thing)", "surely_seated": "(rule, plan, counts)",
               "aways": "(rule, plan, counts)", "aways_in_order": "(rule, plan, sizes)",
               "script_with": "(rule, plan, counts, many)", "first_refusal": "(rule, plan, counts)",
               "good_order": "(rule, plan, counts)"},
    "returns": {"steps_at": "(rule, length, state)", "state_behind": "(rule, length, script)",
                "states": "(rule, length, *, returned=True)", "script_to": "(rule, length, state)",
                "most_free": "(rule, length, *, returned=True)", "breaks": "(rule)",
                "lone_script": "(rule, length, size, *, returned=True)"},
    "notation": {"show_stretch": "(stretch)", "show_rule": "(rule)", "show_worth": "(worth)", "show_plan": "(plan)",
                 "show_sale": "(sale)", "show_play": "(play)", "show_form": "(told)",
                 "show_picture": "(plan, play)"},
    "readers": {"read_stretch": "(text)", "read_rule": "(text)", "read_worth": "(text)", "read_plan": "(text)",
                "read_play": "(text)", "read_form": "(text)"},
    "book": {"Book": "(rule, worth)"},
    "desk": {"Desk": "(rule, worth, plan)"},
}
METHODS = {
    ("rules", "Rule"): {"__eq__": "(self, other)", "bad_at": "(self, end)", "greatest_bad": "(self)", "span": "(self)",
                        "with_bad": "(self, end, lengths)", "with_sizes": "(self, sizes)",
                        "with_soft": "(self, soft)", "with_where": "(self, where)", "with_offer": "(self, offer)",
                        "bare": "(self)"},
    ("plans", "Plan"): {"__eq__": "(self, other)", "__len__": "(self)", "__iter__": "(self)", "rows": "(self)",
                        "stretches": "(self)"},
    ("worths", "Worth"): {"__eq__": "(self, other)", "prices": "(self)", "price": "(self, size)",
                          "total": "(self, sold, seats)"},
    ("halls", "Hall"): {"__eq__": "(self, other)", "__len__": "(self)", "__iter__": "(self)",
                        "sell": "(self, row, seat, size)", "back": "(self)", "again": "(self)", "log": "(self)",
                        "stretches": "(self)", "sales": "(self)", "seats": "(self)", "is_whole": "(self)",
                        "offers": "(self, size)", "refused": "(self, size)", "copied": "(self)"},
    ("book", "Book"): {"__eq__": "(self, other)", "__len__": "(self)", "__iter__": "(self)", "do": "(self, edit)",
                       "back": "(self)", "again": "(self)", "log": "(self)", "copied": "(self)"},
    ("desk", "Desk"): {"execute": "(self, line)", "hall": "(self)"},
}
PROPERTIES = {("rules", "Rule"): ("sizes", "soft", "where", "offer"), ("worths", "Worth"): ("free", "until"),
              ("halls", "Hall"): ("plan", "rule"), ("book", "Book"): ("rule", "worth")}


def files():
    """The text and the tree of each file of the package."""
    found = {}
    for name in sorted(os.listdir(FOLDER)):
        if name != "__pycache__":
            with open(os.path.join(FOLDER, name), encoding="utf-8") as file:
                found[name] = file.read()
    return {name: (text, ast.parse(text)) for name, text in found.items()}


class Form(unittest.TestCase):
    """The plainest of the rules of LANGUAGE.md: L1, L2, L7, L8, L10, L14, L16, L17, L27."""

    def test_files_and_sizes(self):
        for name, (text, tree) in files().items():
            self.assertRegex(name, r"^[a-z_]+\.py$")
            self.assertRegex(text, r"\A[ -~\n]*\Z")
            self.assertLess(len(text.split("\n")), 400)
            self.assertLessEqual(max(len(line) for line in text.split("\n")), 120)
            for node in ast.walk(tree):
                if isinstance(node, ast.FunctionDef):
                    self.assertLessEqual(node.end_lineno - node.lineno + 1, 40, node.name)

    def test_imports(self):
        seen = {}
        for name, (text, tree) in files().items():
            for node in ast.walk(tree):
                self.assertNotIsInstance(node, ast.Import)
                if isinstance(node, ast.ImportFrom):
                    self.assertTrue(node.module.startswith("loneseats.") or node.module in LIBRARY, node.module)
                    self.assertFalse([alias for alias in node.names if alias.asname or alias.name == "*"])
                    seen.setdefault(name, set()).add(node.module.split(".")[-1] + ".py")
        for name in seen:
            reached, waiting = set(), [name]
            while waiting:
                for other in seen.get(waiting.pop(), ()):
                    if other not in reached:
                        reached.add(other)
                        waiting.append(other)
            self.assertNotIn(name, reached)

    def test_words(self):
        for name, (text, tree) in files().items():
            for node in ast.walk(tree):
                if isinstance(node, ast.Name):
                    # The examples that are run give the builtins this name.
                    if node.id != "_" and hasattr(builtins, node.id):
                        self.assertIn(node.id, BUILTINS, name)
                        self.assertIsInstance(node.ctx, ast.Load, (name, node.id))
                    self.assertIsNone(BARRED.search(node.id), name)
                if isinstance(node, (ast.FunctionDef, ast.ClassDef)):
                    self.assertTrue(node.name.startswith("__") or not hasattr(builtins, node.name), node.name)
                if isinstance(node, ast.arg):
                    self.assertFalse(hasattr(builtins, node.arg), node.arg)
                if isinstance(node, ast.Constant):
                    self.assertNotIsInstance(node.value, (float, complex))
                    if isinstance(node.value, str):
                        self.assertNotIn(chr(37), node.value)
                self.assertNotIsInstance(node, (ast.Div, ast.Global, ast.AsyncFunctionDef))
                if isinstance(node, ast.Call) and isinstance(node.func, ast.Name):
                    if node.func.id in ("any", "all", "min", "max", "sum", "sorted"):
                        self.assertFalse([part for part in node.args if isinstance(part, ast.GeneratorExp)], name)
                if isinstance(node, ast.Attribute):
                    self.assertNotIn(node.attr, ("sort", "format", "mro"))

    def test_names_of_imports_are_not_taken(self):
        for name, (text, tree) in files().items():
            imported = {alias.name for node in tree.body if isinstance(node, ast.ImportFrom) for alias in node.names}
            for node in ast.walk(tree):
                if isinstance(node, ast.Name) and isinstance(node.ctx, ast.Store):
                    self.assertNotIn(node.id, imported, name)
                if isinstance(node, ast.arg):
                    self.assertNotIn(node.arg, imported, name)


class Interface(unittest.TestCase):
    """The interface of DOC.md: names, parameters and the files in which they are defined."""

    def test_names_and_parameters(self):
        for module, names in INTERFACE.items():
            held = importlib.import_module("loneseats." + module)
            for name, parameters in names.items():
                with self.subTest(module=module, name=name):
                    self.assertEqual(getattr(held, name).__module__, "loneseats." + module)
                    if parameters is not None:
                        self.assertEqual(str(inspect.signature(getattr(held, name))), parameters)

    def test_methods_stand_in_their_class(self):
        for (module, name), methods in METHODS.items():
            held = getattr(importlib.import_module("loneseats." + module), name)
            for method, parameters in methods.items():
                with self.subTest(name=name, method=method):
                    self.assertEqual(str(inspect.signature(vars(held)[method])), parameters)

    def test_properties(self):
        for (module, name), properties in PROPERTIES.items():
            held = getattr(importlib.import_module("loneseats." + module), name)
            for told in properties:
                self.assertIsInstance(vars(held)[told], property)


if __name__ == "__main__":
    unittest.main()
