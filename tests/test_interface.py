"""The names and arguments that the document's interface lists."""

import importlib
import inspect
import unittest

INTERFACE = {
    "weavings": {
        "is_weaving": "thing",
        "is_falls": "weaving thing",
        "groups_of": "weaving",
        "whole_strands": "weaving falls line",
        "standing": "weaving falls group",
        "pieces": "weaving falls group",
    },
    "trees": {
        "tree": "weaving falls group",
        "tree_lines": "weaving falls group",
        "way_between": "weaving falls group one other",
        "shows_tree": "weaving falls group thing",
    },
    "telling": {
        "told_rows": "weaving falls group",
        "shows_rows": "weaving falls group thing",
    },
    "handing": {
        "ways_at": "weaving falls group house",
        "take": "table letter way ways",
        "strand_of": "sender to numbers",
    },
    "letters": {
        "shows_sent": "weaving falls group place thing",
        "reached": "weaving falls group house",
    },
    "spare": {
        "apart": "weaving falls group one other",
    },
    "sparecheck": {
        "shows_parting": "weaving falls group one other thing",
        "shows_ways": "weaving falls group one other thing",
        "weakest": "weaving falls group",
    },
    "texts": {
        "weaving_text": "weaving",
        "weaving_from": "text",
    },
    "desk": {
        "answers": "text",
    },
    "tables": {
        "Table": "room age",
    },
    "posts": {
        "Post": "weaving room age",
    },
    "errors": {
        "BadRow": "row",
        "BadSheet": "row",
    },
}

METHODS = {
    ("tables", "Table"): {
        "hear": "group name way",
        "way_of": "group name",
        "forget": "way",
        "drop_lines": "group",
        "tick": "many",
        "entries": "",
        "now": "",
        "twin": "",
    },
    ("posts", "Post"): {
        "lay": "name house door",
        "lift": "name",
        "place_of": "name",
        "send": "sender to",
        "would": "sender to",
        "fall": "line number",
        "mend": "line number",
        "break_house": "house",
        "mend_house": "house",
        "falls": "",
        "tick": "many",
        "now": "",
        "entries": "house",
        "wrong": "",
        "twin": "",
    },
}


class Interface(unittest.TestCase):
    def test_names_and_arguments(self):
        for file, functions in INTERFACE.items():
            module = importlib.import_module("namelines." + file)
            for name, arguments in functions.items():
                with self.subTest(f"{file}.{name}"):
                    function = getattr(module, name)
                    self.assertEqual(function.__module__, module.__name__)
                    self.assertEqual(list(inspect.signature(function).parameters), arguments.split())

    def test_methods_stand_in_the_class_itself(self):
        for (file, name), methods in METHODS.items():
            found = vars(getattr(importlib.import_module("namelines." + file), name))
            for method, arguments in methods.items():
                with self.subTest(f"{name}.{method}"):
                    self.assertTrue(inspect.isfunction(found.get(method)))
                    self.assertEqual(list(inspect.signature(found[method]).parameters), ["self"] + arguments.split())


if __name__ == "__main__":
    unittest.main()
