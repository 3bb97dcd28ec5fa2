"""The interface: each name stands in its own file, with its arguments; and what the README shows is so."""

import doctest
import inspect
import os
import unittest
from importlib import import_module

FUNCTIONS = {
    "wheels": {
        "is_wheels": ["value"], "size": ["wheels"], "multiple": ["wheels", "step", "number"],
        "order": ["wheels", "step"], "total": ["wheels", "row"],
    },
    "sums": {
        "sums": ["wheels", "row"], "never_home": ["wheels", "row"], "home_lot": ["wheels", "row"],
        "smallest_lot": ["wheels", "row", "goal"], "count_lots": ["wheels", "row", "goal"],
    },
    "tellers": {
        "teller": ["wheels", "row"], "shows_teller": ["wheels", "row", "value"], "few_teller": ["wheels", "row"],
        "has_few": ["wheels", "row"],
    },
    "longs": {
        "long_teller": ["places", "row"], "count_long": ["places", "steps"], "long_rows": ["places", "steps"],
        "partitions": ["number"], "most_steps": ["places"],
    },
    "rounds": {
        "is_round": ["wheels", "row"], "round_teller": ["places", "row"], "count_rounds": ["places", "steps"],
        "round_rows": ["places", "steps"], "parted": ["wheels", "row"], "shows_parted": ["wheels", "row", "value"],
    },
    "sames": {"same_lot": ["places", "row"], "has_same": ["places", "row"], "sizes_home": ["places", "row"]},
    "wheeltexts": {"write_row": ["wheels", "row"], "read_row": ["text"]},
}
METHODS = {
    "__init__": ["self", "wheels"], "take": ["self", "step"], "undo": ["self"], "sums": ["self"], "home_lot": ["self"],
}
README = os.path.join(os.path.dirname(os.path.abspath(__file__)), os.pardir, "README.md")


def parameters(function):
    return list(inspect.signature(function).parameters)


class InterfaceTest(unittest.TestCase):
    def test_functions(self):
        for name, functions in FUNCTIONS.items():
            module = import_module("nolothome." + name)
            for word, expected in functions.items():
                with self.subTest(module=name, function=word):
                    function = vars(module)[word]
                    self.assertEqual(function.__module__, module.__name__)
                    self.assertEqual(parameters(function), expected)

    def test_walk(self):
        walk = import_module("nolothome.walks").Walk
        self.assertEqual(walk.__module__, "nolothome.walks")
        for word, expected in METHODS.items():
            with self.subTest(method=word):
                self.assertEqual(parameters(vars(walk)[word]), expected)

    def test_arguments_by_name(self):
        given = {
            "value": (4, 6), "wheels": (4, 6), "step": (3, 5), "number": 7, "row": ((3, 5), (1, 1)), "goal": (0, 0),
            "text": "wheels 4 6\nsteps 3,5",
        }
        for name in ("wheels", "sums", "tellers", "wheeltexts"):
            for word, names in FUNCTIONS[name].items():
                function = vars(import_module("nolothome." + name))[word]
                by_name = function(**{each: given[each] for each in names})
                self.assertEqual(by_name, function(*[given[each] for each in names]))


class ReadmeTest(unittest.TestCase):
    def test_examples(self):
        with open(README, encoding="utf-8") as file:
            # A void line ends the last example; the three signs behind it are not what it shows.
            text = file.read().replace("```", "")
        examples = doctest.DocTestParser().get_doctest(text, {}, "README.md", README, 0)
        self.assertGreater(len(examples.examples), 40)
        self.assertEqual(doctest.DocTestRunner().run(examples).failed, 0)


if __name__ == "__main__":
    unittest.main()
