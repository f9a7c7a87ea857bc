import copy
import importlib
import inspect
import itertools
import unittest

from sentnext.asker import Asker
from sentnext.errors import BadText, NoCourse, NoLedger, NoRing, NothingDone, NotSure
from sentnext.papers import ring
from sentnext.stories import latest_story
from sentnext.tighter import parted
from sentnext.ways import way
from tests.values import H, T, same

STANDING = ((1, 0), 1, (0, 2, 0))
G = (3, 3, 1)
CALM = (3, 4, 1)
NAMED = (("named", 0, 0),)
STORY = ((1, 1, 0, 0, 0), ((0, 1), (1, 0), (2, 0), (0, -1)))
RING = ((1, 0, 1), ((0, 1), (1, 0), (0, 1)), 1)
LEDGER = (
    (((0,), 0, (0, 0, -1)), 1), (((0,), 0, (0, 0, 1)), 1), (((0,), 1, (0, 1, 0)), 2),
    (((1,), 0, (0, 0, -1)), 3), (((1,), 0, (0, 1, 0)), 1),
)
WAY = ((0, (-1, 1)), (1, (2, -1)), (0, (-1, -1)))
LOG = ((0, 1), (-1, -1), (1, 2))
TEXT = "house 3 2 1\nnamed 0 1\nnext 0 0\n"

# For each file its functions: the arguments by their names, in order, and what is told.
FUNCTIONS = {
    "houses": {
        "is_house": ({"value": H}, True),
        "is_course": ({"house": H, "value": (0, 0, 1)}, True),
        "names": ({"house": H, "course": (0, 0, 1), "moment": 2, "server": 2}, (0, 1)),
    },
    "tables": {
        "is_table": ({"value": T}, True),
        "asks": ({"house": H, "table": T, "asker": (0, 1, 0)}, 1),
        "behind": ({"house": H, "table": T, "asker": (0, 1, 0), "name": 0}, (1, 0, 1)),
    },
    "standings": {
        "firsts": ({"house": (2, 1, 0)}, (((0,), 0, (0, 0, -1)), ((1,), 0, (0, 0, -1)))),
        "may_name": ({"house": H, "standing": STANDING, "server": 2}, (0, 1)),
        "goes_to": (
            {"house": H, "table": T, "standing": STANDING},
            (((1, 1), 0, (0, 1, 2)), ((1, 1), 0, (1, 0, 2))),
        ),
    },
    "stories": {
        "is_story": ({"house": G, "table": T, "value": STORY}, True),
        "latest": ({"house": G, "table": T}, 4),
        "latest_story": ({"house": G, "table": T}, latest_story(G, T)),
        "most": ({"house": G, "table": T}, 4),
    },
    "papers": {
        "ring": ({"house": H, "table": T}, ring(H, T)),
        "ledger": ({"house": (2, 2, 0), "table": NAMED}, LEDGER),
    },
    "checker": {
        "is_ring": ({"house": (2, 1, 0), "table": NAMED, "value": RING}, True),
        "is_ledger": ({"house": (2, 2, 0), "table": NAMED, "value": LEDGER}, True),
        "is_sure": ({"house": (2, 2, 0), "way": WAY, "moments": 3}, True),
    },
    "tighter": {
        "least_rest": ({"house": H, "table": NAMED, "moments": 3}, 3),
        "most_lag": ({"house": G, "table": NAMED, "moments": 3}, 1),
        "stairs": ({"house": H, "table": NAMED}, ((2, 4), (3, 3))),
        "parted": (
            {"house": H, "table": T, "other": (("named", 0, 0),)},
            parted(H, T, (("named", 0, 0),)),
        ),
        "best_table": ({"house": H}, NAMED),
    },
    "ways": {
        "is_way": ({"house": (2, 2, 0), "value": WAY}, True),
        "soonest": ({"house": H}, 4),
        "way": ({"house": H}, way(H)),
    },
    "logs": {
        "is_log": ({"house": H, "value": LOG}, True),
        "may_head": ({"house": CALM, "log": LOG}, (2,)),
        "last_change": ({"house": CALM, "log": LOG}, (1, 3)),
    },
    "texts": {
        "table_text": ({"house": H, "table": T}, TEXT),
        "read_table": ({"text": TEXT}, (H, T)),
    },
}
# Calls that raise, and what the error tells.
REFUSED = [
    ("checker", "is_ring", {"house": (2, 1, 0), "table": NAMED, "value": RING[:2] + (0,)}, NoRing, {"word": "round"}),
    (
        "checker", "is_ledger", {"house": (2, 2, 0), "table": NAMED, "value": LEDGER[:4]},
        NoLedger, {"word": "open", "number": 3},
    ),
    (
        "checker", "is_sure", {"house": (2, 2, 0), "way": WAY, "moments": 2},
        NotSure, {"course": (1, 0), "asks": ((0, 1), (1, 0))},
    ),
    ("logs", "may_head", {"house": (3, 6, 0), "log": ((0, 1), (1, 2), (2, 0))}, NoCourse, {"number": 2}),
    ("logs", "last_change", {"house": (3, 6, 0), "log": ((0, 1), (1, 2), (2, 0))}, NoCourse, {"number": 2}),
    ("texts", "read_table", {"text": TEXT + "next 0"}, BadText, {"line": 3, "word": 2}),
]
CLASSES = {
    "errors": ["AskError", "NoRing", "NoLedger", "NotSure", "NoCourse", "NothingDone", "BadText"],
    "asker": ["Asker"],
}


def functions():
    """Each function of the interface, with its arguments and what is told."""
    for file, listed in FUNCTIONS.items():
        module = importlib.import_module("sentnext." + file)
        for word, (arguments, told) in listed.items():
            yield module, word, arguments, told


class Interface(unittest.TestCase):
    def test_defined_in_the_file_that_lists_them(self):
        for module, word, _, _ in functions():
            function = getattr(module, word)
            self.assertTrue(inspect.isfunction(function), word)
            self.assertEqual(function.__module__, module.__name__, word)
        for file, words in CLASSES.items():
            module = importlib.import_module("sentnext." + file)
            for word in words:
                self.assertTrue(inspect.isclass(getattr(module, word)), word)
                self.assertEqual(getattr(module, word).__module__, module.__name__, word)

    def test_the_arguments_have_the_names_of_the_interface(self):
        for module, word, arguments, _ in functions():
            listed = inspect.signature(getattr(module, word)).parameters
            self.assertEqual(list(listed), list(arguments), word)

    def test_by_position(self):
        for module, word, arguments, told in functions():
            self.assertTrue(same(getattr(module, word)(*arguments.values()), told), word)

    def test_by_name_in_any_order(self):
        for module, word, arguments, told in functions():
            for order in itertools.permutations(arguments.items()):
                self.assertTrue(same(getattr(module, word)(**dict(order)), told), word)

    def test_by_position_and_then_by_name(self):
        for module, word, arguments, told in functions():
            worths = list(arguments.values())
            for many in range(len(worths)):
                rest = dict(list(arguments.items())[many:])
                self.assertTrue(same(getattr(module, word)(*worths[:many], **rest), told), word)

    def test_asked_again_and_in_between(self):
        for _ in range(2):
            for module, word, arguments, told in functions():
                before = copy.deepcopy(arguments)
                self.assertTrue(same(getattr(module, word)(**arguments), told), word)
                for key in arguments:
                    self.assertTrue(same(arguments[key], before[key]), word)

    def test_refused_by_name_in_any_order_and_asked_again(self):
        for file, word, arguments, kind, told in REFUSED:
            module = importlib.import_module("sentnext." + file)
            for order in itertools.permutations(arguments.items()):
                with self.assertRaises(kind) as caught:
                    getattr(module, word)(**dict(order))
                for key, worth in told.items():
                    self.assertTrue(same(getattr(caught.exception, key), worth), (word, key))

    def test_askers_by_position_and_by_name(self):
        for asker in (Asker(CALM), Asker(house=CALM)):
            deeds = [asker.ask(0, 1), asker.wait(), asker.ask(name=2, server=1), asker.undo()]
            self.assertTrue(same(deeds, [1, 2, 3, 2]))
            self.assertTrue(same(asker.ask(1, name=2), 3))
            self.assertTrue(same((asker.house, asker.log, len(asker)), (CALM, LOG, 3)))
            self.assertTrue(same((asker.may(), asker.sure()), ((2,), 2)))
            self.assertIs(asker.twin() == asker, True)
            self.assertRaises(NothingDone, Asker(CALM).undo)

    def test_the_arguments_of_askers_have_the_names_of_the_interface(self):
        listed = {
            "__init__": ["house"], "ask": ["server", "name"], "wait": [], "undo": [], "may": [], "sure": [], "twin": [],
        }
        for word, names in listed.items():
            self.assertEqual(list(inspect.signature(getattr(Asker, word)).parameters)[1:], names, word)


if __name__ == "__main__":
    unittest.main()
