"""The names, places and arguments that the document's interface lists."""

import importlib
import inspect
import unittest

from ringhue.late import Hands

FUNCTIONS = {
    "houses": {"is_pointing": ["thing"], "road": ["pointing", "house", "k"]},
    "texts": {"shown": ["pointing"], "read": ["text"]},
    "steps": {"is_proper": ["pointing", "labels"], "step": ["pointing", "labels"]},
    "halvings": {"halvings": ["m"], "shortened": ["pointing", "names", "m"]},
    "three": {
        "taken_away": ["pointing", "labels", "hue"],
        "hues": ["pointing", "names", "m"],
        "all_labels": ["pointing", "names", "m"],
        "rounds": ["m"],
    },
    "windows": {"hue_of": ["window", "m"]},
    "stands": {"stands": ["m", "t"], "is_table": ["m", "t", "thing"]},
    "lowered": {"lowered": ["m", "t", "table"], "most_names": ["c", "t"], "one_round": ["m"]},
    "apart": {"apart": ["pointing", "labels"], "is_apart": ["pointing", "thing"]},
    "pairs": {"paired": ["pointing", "labels"], "is_paired": ["pointing", "thing"]},
}
CLASSES = {
    "errors": {"HueError": {}, "NotProper": {"__init__": ["house"]}, "NoHouse": {"__init__": ["house"]},
               "NotReady": {"__init__": ["house"]}, "NoText": {"__init__": ["text"]},
               "NoRow": {"__init__": ["text"]}},
    "late": {"Hands": {"__init__": ["pointing", "names", "m"], "go": ["house"], "done": [], "ready": [],
                       "label": ["house", "k"]}},
    "desk": {"Desk": {"__init__": [], "say": ["row"]}},
}


class Interface(unittest.TestCase):
    def parameters(self, function):
        return list(inspect.signature(function).parameters)

    def test_functions(self):
        for file, functions in FUNCTIONS.items():
            module = importlib.import_module("ringhue." + file)
            for name, arguments in functions.items():
                with self.subTest(file=file, name=name):
                    function = getattr(module, name)
                    self.assertTrue(inspect.isfunction(function))
                    self.assertEqual(function.__module__, module.__name__)
                    self.assertEqual(self.parameters(function), arguments)

    def test_classes(self):
        for file, classes in CLASSES.items():
            module = importlib.import_module("ringhue." + file)
            for name, methods in classes.items():
                found = getattr(module, name)
                self.assertEqual(found.__module__, module.__name__)
                for method, arguments in methods.items():
                    with self.subTest(file=file, name=name, method=method):
                        self.assertIn(method, vars(found))
                        self.assertEqual(self.parameters(vars(found)[method])[1:], arguments)

    def test_methods_are_called_by_places(self):
        hands = Hands((1, 0), (0, 1), 2)
        self.assertEqual((hands.go(0), hands.label(0, 1), hands.label(1, 1)), (1, 1, None))


if __name__ == "__main__":
    unittest.main()
