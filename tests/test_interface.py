"""All that the document's interface names is there, under its name, with its arguments."""

import importlib
import inspect
import unittest

import stairlanes
from stairlanes.desk import Desk
from stairlanes.tellers import Teller

FUNCTIONS = {
    "nets": {"is_net": 1, "layers": 1, "depth": 1, "on_lane": 2, "plain": 1},
    "balls": {"passed": 3, "passed_back": 3},
    "counting": {"ends_of": 2, "turns_of": 2},
    "scenes": {"begun": 1, "is_deed": 2, "done": 3},
    "weaving": {"woven": 2, "is_still": 1, "put_in": 2},
    "stairs": {"is_stair": 1, "stair_of": 2, "spread_of": 1},
    "sharing": {"shares": 1, "is_even": 2, "uneven": 2},
    "verdicts": {"verdict": 3},
    "stairlooks": {"shows_stair": 3, "shows_break": 3},
    "reaching": {"reach": 3},
    "reachlooks": {"shows_reach": 4},
    "ways": {"merger": 1, "stairway": 1, "rounds": 1, "tree": 1},
    "joining": {"behind": 2, "beside": 2, "doubled": 1, "renamed": 2},
    "merging": {"merge_verdict": 2, "merges": 3},
    "mergelooks": {"shows_merge": 2},
    "comparing": {"compared": 2},
    "bars": {"least_depth": 1, "bar": 1},
    "barlooks": {"shows_bar": 2},
    "showing": {"show_net": 1, "show_counts": 1},
    "reading": {"read_net": 1, "read_counts": 1},
    "plans": {"is_plan": 1, "made_by": 1},
    "knowing": {"known_by": 1},
    "pacing": {"are_runs": 2, "ran": 2, "crossed": 2},
}
METHODS = {Teller: {"start": 1, "step": 1, "way": 0, "given": 0, "turns": 0}, Desk: {"say": 1}}


def taken(function):
    """How many things are handed in by their places."""
    return len([one for one in inspect.signature(function).parameters.values() if one.kind is one.POSITIONAL_OR_KEYWORD])


class InterfaceTest(unittest.TestCase):
    def test_functions(self):
        for file, names in FUNCTIONS.items():
            module = importlib.import_module(f"stairlanes.{file}")
            for name, many in names.items():
                self.assertTrue(inspect.isfunction(getattr(module, name)), name)
                self.assertEqual(taken(getattr(module, name)), many, name)

    def test_classes(self):
        for kind, names in METHODS.items():
            self.assertEqual(taken(kind), 1)
            for name, many in names.items():
                # The object itself is one more.
                self.assertEqual(taken(getattr(kind, name)), many + 1, name)

    def test_the_package_itself(self):
        self.assertTrue(stairlanes.__doc__)


if __name__ == "__main__":
    unittest.main()
