import copy
import importlib
import inspect
import itertools
import unittest

from tests.values import H, T, same

STANDING = ((1, 0), 1, (0, 2, 0))

# For each file its functions: the arguments by their names, in order, and what is told.
FUNCTIONS = {
    "houses": {
        "is_house": ({"value": H}, True),
        "is_course": ({"house": H, "value": (0, 0, 1)}, True),
        "names": ({"house": H, "course": (0, 0, 1), "moment": 2, "server": 2}, (0, 1)),
    },
    "tables": {
        "is_table": ({"value": T}, True),
        "asks": ({"house": H, "table": T, "asker": (0, 1, 0)}, 1),
        "behind": ({"house": H, "table": T, "asker": (0, 1, 0), "name": 0}, (1, 0, 1)),
    },
    "standings": {
        "firsts": ({"house": (2, 1, 0)}, (((0,), 0, (0, 0, -1)), ((1,), 0, (0, 0, -1)))),
        "may_name": ({"house": H, "standing": STANDING, "server": 2}, (0, 1)),
        "goes_to": (
            {"house": H, "table": T, "standing": STANDING},
            (((1, 1), 0, (0, 1, 2)), ((1, 1), 0, (1, 0, 2))),
        ),
    },
}
CLASSES = {
    "errors": ["AskError", "NoRing", "NoLedger", "NotSure", "NoCourse", "NothingDone", "BadText"],
}


def functions():
    """Each function of the interface, with its arguments and what is told."""
    for file, listed in FUNCTIONS.items():
        module = importlib.import_module("sentnext." + file)
        for word, (arguments, told) in listed.items():
            yield module, word, arguments, told


class Interface(unittest.TestCase):
    def test_defined_in_the_file_that_lists_them(self):
        for module, word, _, _ in functions():
            function = getattr(module, word)
            self.assertTrue(inspect.isfunction(function), word)
            self.assertEqual(function.__module__, module.__name__, word)
        for file, words in CLASSES.items():
            module = importlib.import_module("sentnext." + file)
            for word in words:
                self.assertTrue(inspect.isclass(getattr(module, word)), word)
                self.assertEqual(getattr(module, word).__module__, module.__name__, word)

    def test_the_arguments_have_the_names_of_the_interface(self):
        for module, word, arguments, _ in functions():
            listed = inspect.signature(getattr(module, word)).parameters
            self.assertEqual(list(listed), list(arguments), word)

    def test_by_position(self):
        for module, word, arguments, told in functions():
            self.assertTrue(same(getattr(module, word)(*arguments.values()), told), word)

    def test_by_name_in_any_order(self):
        for module, word, arguments, told in functions():
            for order in itertools.permutations(arguments.items()):
                self.assertTrue(same(getattr(module, word)(**dict(order)), told), word)

    def test_by_position_and_then_by_name(self):
        for module, word, arguments, told in functions():
            worths = list(arguments.values())
            for many in range(len(worths)):
                rest = dict(list(arguments.items())[many:])
                self.assertTrue(same(getattr(module, word)(*worths[:many], **rest), told), word)

    def test_asked_again_and_in_between(self):
        for _ in range(2):
            for module, word, arguments, told in functions():
                before = copy.deepcopy(arguments)
                self.assertTrue(same(getattr(module, word)(**arguments), told), word)
                for key in arguments:
                    self.assertTrue(same(arguments[key], before[key]), word)


if __name__ == "__main__":
    unittest.main()
