"""The interface: names, arguments, and where they are defined."""

import ast
import importlib
import inspect
import pathlib
import unittest

PACKAGE = pathlib.Path(__file__).resolve().parent.parent / "hookrow"

FUNCTIONS = {
    "bodies": {"check_body": "(hook, body, *, wraps=False)", "children": "(tree)", "count": "(tree)"},
    "bodytexts": {"show_body": "(body)", "read_body": "(text)"},
    "terms": {"written": "(term, calls)", "parting": "(one, other, calls)"},
    "plugintexts": {"read_plugin": "(text)"},
    "running": {"run": "(host, hook, call, *, order=None)", "trace": "(host, hook, call, *, order=None)"},
    "results": {"results": "(host, hook, call)", "parted": "(host, hook, call)"},
    "tables": {"table": "(host, hook)", "sure": "(host, hook)"},
    "likeness": {"alike": "(host, other, hook)", "quiet": "(host, name)", "deciders": "(host, hook, call)"},
    "settling": {"settle": "(host, hook, order)", "settled": "(host, hook, pairs)"},
    "checker": {
        "holds_ring": "(row, value)", "holds_chain": "(row, one, other, value)",
        "holds_exchanges": "(row, one, other, value)", "holds_results": "(host, hook, call, value)",
        "holds_parted": "(host, hook, call, value)", "holds_sure": "(host, hook, value)",
        "holds_alike": "(host, other, hook, value)", "holds_settle": "(host, hook, order, value)",
    },
}
CLASSES = {
    "errors": {
        "InvalidHook": "(word, name)", "InvalidBody": "(word, path)", "InvalidText": "(at)",
        "InvalidPlugin": "(word, hook)", "InvalidCalls": "(name)", "BadCall": "(word, name)",
        "Barred": "(hook, names)", "NoOrder": "(at)", "CallFailed": "(word, plugin)", "Taken": "(name)",
        "NoHook": "(name)", "NoPlugin": "(name)", "NoKept": "(index)",
    },
    "hooks": {"Hook": "(name, kind, params, *, only=(), gives='number')"},
    "calls": {"Calls": "(hook, bounds=None)"},
    "terms": {"Value": "(value)", "Moved": "(name, shift=0)", "Failure": "(word, plugin)"},
    "rows": {"Row": "(names, pairs=())"},
    "plugins": {
        "Part": "(hook, body, *, before=(), after=(), layer='middle', wraps=False)", "Plugin": "(name, parts)",
    },
    "tables": {"Case": "(calls, results)"},
    "hosts": {"Host": "(hooks)", "Trial": "(host)"},
}
METHODS = {
    ("hooks", "Hook"): {
        "bind": "(self, args, named)", "__eq__": "(self, other)", "__str__": "(self)",
        "__init__": "(self, name, kind, params, *, only=(), gives='number')",
    },
    ("calls", "Calls"): {
        "bound": "(self, name)", "within": "(self, other)", "where": "(self, test)", "__contains__": "(self, call)",
        "__bool__": "(self)", "__and__": "(self, other)", "__sub__": "(self, other)", "__eq__": "(self, other)",
    },
    ("terms", "Value"): {"__call__": "(self, call)", "__eq__": "(self, other)", "__str__": "(self)"},
    ("terms", "Moved"): {"__call__": "(self, call)", "__eq__": "(self, other)", "__str__": "(self)"},
    ("terms", "Failure"): {"__call__": "(self, call)", "__eq__": "(self, other)", "__str__": "(self)"},
    ("rows", "Row"): {
        "keeps": "(self, order)", "ahead": "(self, one, other)", "chain": "(self, one, other)", "orders": "(self)",
        "count": "(self, names=None)", "with_wish": "(self, one, other)", "without": "(self, name)",
        "freed": "(self, name)", "within": "(self, other)", "exchanges": "(self, one, other)",
        "free_at": "(self, order)", "__len__": "(self)", "__eq__": "(self, other)",
    },
    ("plugins", "Part"): {"__eq__": "(self, other)"},
    ("plugins", "Plugin"): {"part": "(self, hook)", "__eq__": "(self, other)", "__str__": "(self)"},
    ("tables", "Case"): {"__call__": "(self, call)"},
    ("hosts", "Host"): {
        "hook_of": "(self, name)", "row": "(self, hook)", "add": "(self, plugin)", "drop": "(self, name)",
        "undo": "(self)", "log": "(self)", "call": "(self, hook, *args, **named)", "keep": "(self, hook, call)",
        "kept": "(self, index)", "trial": "(self)", "in_trial": "(self, work)", "__getitem__": "(self, name)",
        "__setitem__": "(self, name, plugin)", "__contains__": "(self, name)", "__len__": "(self)",
        "__iter__": "(self)", "__add__": "(self, plugin)", "__sub__": "(self, name)", "__iadd__": "(self, plugin)",
        "__isub__": "(self, name)", "__eq__": "(self, other)",
    },
    ("hosts", "Trial"): {"__enter__": "(self)", "__exit__": "(self, kind, value, trace)"},
}
PROPERTIES = {
    ("calls", "Calls"): ["least"], ("rows", "Row"): ["ring", "order"], ("hosts", "Host"): ["hooks", "by_age", "changed"],
}


def module(name):
    return importlib.import_module(f"hookrow.{name}")


class Interface(unittest.TestCase):
    def test_functions(self):
        for name, functions in FUNCTIONS.items():
            for function, arguments in functions.items():
                found = getattr(module(name), function)
                self.assertEqual(str(inspect.signature(found)), arguments, function)
                self.assertEqual(found.__module__, f"hookrow.{name}")

    def test_classes(self):
        for name, classes in CLASSES.items():
            for kind, arguments in classes.items():
                found = getattr(module(name), kind)
                self.assertEqual(str(inspect.signature(found)), arguments, kind)
                self.assertEqual(found.__module__, f"hookrow.{name}")

    def test_methods_stand_in_the_class_itself(self):
        for (name, kind), methods in METHODS.items():
            for method, arguments in methods.items():
                found = vars(getattr(module(name), kind))[method]
                self.assertEqual(str(inspect.signature(found)), arguments, method)

    def test_properties_stand_in_the_class_itself(self):
        for (name, kind), properties in PROPERTIES.items():
            for each in properties:
                self.assertIsInstance(vars(getattr(module(name), kind))[each], property)

    def test_base_of_errors(self):
        self.assertEqual(module("errors").HookError.__module__, "hookrow.errors")

    def test_init_has_only_a_docstring(self):
        rows = ast.parse((PACKAGE / "__init__.py").read_text()).body
        self.assertEqual(len(rows), 1)
        self.assertIsInstance(rows[0].value.value, str)


if __name__ == "__main__":
    unittest.main()
