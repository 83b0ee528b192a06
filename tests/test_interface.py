"""The names and arguments of the interface, and the files in which they stand."""

import importlib
import inspect
import unittest

INTERFACE = {
    "backlinks.errors": {
        "BacklinkError": None, "InvalidLog": None, "InvalidEntry": None, "InvalidTarget": None, "InvalidChain": None,
        "InvalidNumber": None, "InvalidSize": None, "InvalidKnown": None, "InvalidPrices": None, "InvalidBase": None,
        "InvalidTag": None, "InvalidText": None, "InvalidCommand": None, "Different": None, "NothingToUndo": None,
        "Crossing": None, "InvalidChange": None,
    },
    "backlinks.links": {
        "is_log": ["value"], "crossing_in": ["value"], "allowed_targets": ["links"],
    },
    "backlinks.chains": {
        "is_chain": ["links", "value"],
        "shortest_chain": ["links", "start", "end"],
        "lies_on_every": ["links", "start", "end", "entry"],
        "avoiding_chain": ["links", "start", "end", "entry"],
        "count_chains": ["links", "start", "end"],
        "nth_chain": ["links", "start", "end", "number"],
        "chain_number": ["links", "chain"],
        "walk_chains": ["links", "start", "end"],
    },
    "backlinks.meetings": {
        "meeting_of": ["links", "*chains"],
        "sure_meeting": ["links", "start", "end", "other_start", "other_end"],
        "apart_chains": ["links", "start", "end", "other_start", "other_end"],
    },
    "backlinks.counting": {
        "count_logs": ["size"], "nth_log": ["size", "number"], "log_number": ["links"],
    },
    "backlinks.known": {
        "are_known": ["size", "value"],
        "known_crossing": ["size", "known"],
        "count_completions": ["size", "known"],
        "nth_completion": ["size", "known", "number"],
        "completion_number": ["links", "known"],
        "sure_entries": ["size", "known", "start", "end"],
        "skipping_log": ["size", "known", "start", "end", "entry"],
    },
    "backlinks.changes": {
        "after_changes": ["links", "*changes"],
        "changes_between": ["links", "other"],
        "is_direct": ["links", "other", "value"],
        "orders_between": ["links", "other"],
    },
    "backlinks.combining": {
        "is_above": ["links", "other"], "common_up": ["*logs"], "common_down": ["*logs"],
    },
    "backlinks.depths": {
        "depths_of": ["links"], "least_depth": ["size"], "flattest_log": ["size"],
        "cost_of": ["links", "prices"], "cheapest_cost": ["prices"], "cheapest_log": ["prices"],
    },
    "backlinks.ruler": {
        "ruler_link": ["base", "entry"],
        "ruler_walk": ["base", "start", "end"],
        "ruler_length": ["base", "start", "end"],
        "ruler_meeting": ["base", "start", "end", "other_start", "other_end"],
    },
    "backlinks.logs": {
        "Log": None, "TaggedLog": None,
    },
    "backlinks.texts": {
        "show_log": ["links"], "read_log": ["text"], "show_chain": ["links", "chain"], "read_chain": ["links", "text"],
    },
    "backlinks.desk": {
        "Desk": None,
    },
}
# What stands in the body of each class itself: methods with their arguments, and properties.
METHODS = {
    ("backlinks.logs", "Log"): {
        "__init__": ["self", "*targets"],
        "add_entry": ["self", "target"],
        "add_all": ["self", "*targets"],
        "cut_to": ["self", "count"],
        "undo_last": ["self"],
        "walk_down": ["self"],
        "__len__": ["self"],
        "__eq__": ["self", "other"],
    },
    ("backlinks.logs", "TaggedLog"): {
        "__init__": ["self", "*targets", "tag"],
        "add_entry": ["self", "target", "*", "tag='plain'"],
        "add_all": ["self", "*targets"],
        "chain_to_tag": ["self", "tag"],
        "undo_last": ["self"],
        "__eq__": ["self", "other"],
    },
    ("backlinks.desk", "Desk"): {
        "__init__": ["self"],
        "execute": ["self", "row"],
    },
}
PROPERTIES = {
    ("backlinks.logs", "Log"): {
        "entry_count": True, "newest_entry": False, "all_links": False, "allowed_now": False,
    },
    ("backlinks.logs", "TaggedLog"): {
        "entry_count": True, "all_tags": False,
    },
}


class InterfaceTest(unittest.TestCase):
    def test_each_name_is_defined_in_its_file(self):
        for file, names in INTERFACE.items():
            module = importlib.import_module(file)
            for name in names:
                with self.subTest(file=file, name=name):
                    self.assertEqual(getattr(module, name).__module__, file)

    def test_each_function_has_its_arguments(self):
        for file, names in INTERFACE.items():
            module = importlib.import_module(file)
            for name, arguments in names.items():
                with self.subTest(file=file, name=name):
                    if arguments is None:
                        self.assertTrue(inspect.isclass(getattr(module, name)))
                    else:
                        self.assertTrue(inspect.isfunction(getattr(module, name)))
                        parameters = inspect.signature(getattr(module, name)).parameters.values()
                        self.assertEqual([str(parameter) for parameter in parameters], arguments)

    def test_each_class_has_its_methods_itself(self):
        for (file, name), methods in METHODS.items():
            owner = getattr(importlib.import_module(file), name)
            for method, arguments in methods.items():
                with self.subTest(name=name, method=method):
                    self.assertTrue(inspect.isfunction(vars(owner)[method]))
                    signature = str(inspect.signature(vars(owner)[method]))
                    self.assertEqual(signature, f"({', '.join(arguments)})")

    def test_each_class_has_its_properties_itself(self):
        for (file, name), properties in PROPERTIES.items():
            owner = getattr(importlib.import_module(file), name)
            for name, assigned in properties.items():
                with self.subTest(name=name):
                    self.assertIsInstance(vars(owner)[name], property)
                    self.assertEqual(vars(owner)[name].fset is not None, assigned)

    def test_the_class_method_and_the_class_value(self):
        owner = importlib.import_module("backlinks.logs").Log
        self.assertIsInstance(vars(owner)["read_from"], classmethod)
        self.assertEqual(list(inspect.signature(owner.read_from).parameters), ["text"])
        self.assertEqual(vars(owner)["MOST"], 150)


if __name__ == "__main__":
    unittest.main()
