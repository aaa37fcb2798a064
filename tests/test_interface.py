import importlib
import inspect
import unittest

FUNCTIONS = {
    "laidtrees.paths": {"is_name": 1, "is_path": 1, "is_text": 1, "above": 1, "is_within": 2, "beginnings": 1},
    "laidtrees.trees": {"is_tree": 1, "plain": 1, "alike": 2, "names_in": 2, "ties": 1},
    "laidtrees.layers": {"is_layer": 1, "is_stack": 1, "shown": 2, "laid": 1, "look": 2, "open_drawers": 2},
    "laidtrees.turning": {"layer_to": 2, "together": 2, "parting": 2},
    "laidtrees.texts": {"layer_text": 1, "read_layer": 1},
}
CLASSES = {
    ("laidtrees.houses", "House"): {
        "make": ["path"], "write": ["path", "*text"], "add": ["path", "*text"], "remove": ["path"], "clear": ["path"],
        "move": ["old", "new"], "tie": ["old", "new"], "kind": ["path"], "read": ["path"], "listed": ["path"],
        "tied": ["path"], "tree": [], "twin": [], "__len__": [], "__init__": ["tree"],
    },
    ("laidtrees.mounts", "Mount"): {
        "make": ["path"], "write": ["path", "*text"], "add": ["path", "*text"], "remove": ["path"], "clear": ["path"],
        "move": ["old", "new"], "tie": ["old", "new"], "kind": ["path"], "read": ["path"], "listed": ["path"],
        "tied": ["path"], "tree": [], "twin": [], "__init__": ["stack", "*keep"], "many": [], "upper": [], "below": [],
        "broken": [], "freeze": [], "join": [], "opened": ["path"], "text_of": ["handle"], "is_stale": ["handle"],
        "shut": ["handle"], "power": ["steps"], "steps": [], "is_dark": [], "mend": [],
    },
}


def arguments(method):
    found = list(inspect.signature(method).parameters.values())[1:]
    return [("*" if one.kind is one.KEYWORD_ONLY else "") + one.name for one in found]


class Interface(unittest.TestCase):
    def test_functions_are_defined_in_their_files(self):
        for place, functions in FUNCTIONS.items():
            module = importlib.import_module(place)
            for name, many in functions.items():
                with self.subTest(name=name):
                    function = vars(module)[name]
                    self.assertEqual(function.__module__, place)
                    self.assertEqual(len(inspect.signature(function).parameters), many)

    def test_methods_are_defined_in_their_classes(self):
        for (place, name), methods in CLASSES.items():
            found = vars(importlib.import_module(place))[name]
            self.assertEqual(found.__module__, place)
            for method, names in methods.items():
                with self.subTest(method=method):
                    self.assertEqual(arguments(vars(found)[method]), names)


if __name__ == "__main__":
    unittest.main()
