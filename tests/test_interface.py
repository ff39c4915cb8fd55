"""The names and arguments that the document's interface lists."""

import importlib
import inspect
import unittest

INTERFACE = {
    "weavings": {
        "is_weaving": "thing",
        "is_falls": "weaving thing",
        "groups_of": "weaving",
        "whole_strands": "weaving falls line",
        "standing": "weaving falls group",
        "pieces": "weaving falls group",
    },
    "trees": {
        "tree": "weaving falls group",
        "tree_lines": "weaving falls group",
        "way_between": "weaving falls group one other",
        "shows_tree": "weaving falls group thing",
    },
    "telling": {
        "told_rows": "weaving falls group",
        "shows_rows": "weaving falls group thing",
    },
    "errors": {
        "BadRow": "row",
        "BadSheet": "row",
    },
}


class Interface(unittest.TestCase):
    def test_names_and_arguments(self):
        for file, functions in INTERFACE.items():
            module = importlib.import_module("namelines." + file)
            for name, arguments in functions.items():
                with self.subTest(f"{file}.{name}"):
                    function = getattr(module, name)
                    self.assertEqual(function.__module__, module.__name__)
                    self.assertEqual(list(inspect.signature(function).parameters), arguments.split())


if __name__ == "__main__":
    unittest.main()
