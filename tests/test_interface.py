"""The names, arguments and kinds of values that the document lists."""

import importlib
import inspect
import unittest

from tests.samples import DO_P, DO_Q, IF_A, hold, row
from ticktrees.askers import Asker
from ticktrees.ticking import Ticker, run

FUNCTIONS = {
    "trees": {"is_tree": 1, "size": 1, "deep": 1, "ways": 1, "part_at": 2, "changed": 3, "senses_of": 1, "deeds_of": 1, "plain": 1},
    "ticking": {"is_world": 1, "worlds": 2, "run": 2},
    "judging": {"fits": 2, "first_fault": 2, "faults": 2, "counts": 2, "clash": 1},
    "alike": {"parting": 2, "stands": 1, "results": 1, "never": 1, "lean": 1, "are_alike": 2},
    "making": {"all_trees": 3, "fitting": 4, "least": 4},
    "asking": {"groups": 2, "greatest": 2, "best_ask": 3, "best_next": 4, "settled": 2},
    "mending": {"changes": 3, "mended": 4, "apart": 4},
    "reaching": {"row_to_part": 2, "row_to_result": 2, "row_to_deeds": 2, "row_to_stand": 2, "all_deeds": 1},
    "texts": {"tree_text": 1, "read_tree": 1, "row_text": 1, "read_row": 1, "picture": 1},
}
CLASSES = {
    ("ticking", "Ticker"): (1, {"tick": 1, "held": 0, "told": 0, "let_go": 0, "undo": 0}),
    ("askers", "Asker"): (3, {"tell": 1, "left": 0, "guess": 0, "rows": 0, "ask": 0, "is_settled": 0, "undo": 0}),
}
ERRORS = ("TickError", "NoPart", "NoTree", "TooMany", "NoDeed", "BadTree", "NoText")
TREE, OTHER = row(IF_A, hold(DO_P, DO_Q)), hold(IF_A, DO_P)
WORLDS = (("a", "dgd"), ("", "ddd"))
ROW = run(TREE, WORLDS)

# For each kind of value that is told, calls that tell it.
KINDS = {
    bool: (("trees", "is_tree", TREE), ("ticking", "is_world", WORLDS[0]), ("judging", "fits", TREE, (ROW,)),
           ("alike", "are_alike", TREE, OTHER)),
    int: (("trees", "size", TREE), ("trees", "deep", TREE), ("judging", "faults", TREE, (ROW,)),
          ("asking", "greatest", (TREE, OTHER), WORLDS), ("mending", "apart", TREE, TREE, "a", "p")),
    str: (("trees", "senses_of", TREE), ("trees", "deeds_of", TREE), ("alike", "results", TREE), ("texts", "tree_text", TREE),
          ("texts", "row_text", ROW), ("texts", "picture", TREE)),
    tuple: (("trees", "ways", TREE), ("trees", "part_at", TREE, (1,)), ("trees", "changed", TREE, (1,), IF_A), ("trees", "plain", TREE),
            ("ticking", "worlds", "a", "p"), ("ticking", "run", TREE, WORLDS), ("judging", "first_fault", OTHER, (ROW,)),
            ("judging", "counts", TREE, WORLDS), ("judging", "clash", (ROW, run(OTHER, WORLDS))), ("alike", "parting", TREE, OTHER),
            ("alike", "stands", TREE), ("alike", "never", TREE), ("alike", "lean", TREE), ("making", "all_trees", "a", "p", 2),
            ("making", "fitting", (), "a", "p", 2), ("making", "least", (), "a", "p", 2), ("asking", "groups", (TREE, OTHER), WORLDS),
            ("asking", "best_ask", (TREE, OTHER), "a", "p"), ("asking", "best_next", (TREE, OTHER), WORLDS, "a", "p"),
            ("asking", "settled", (TREE, OTHER), ROW), ("mending", "changes", TREE, "a", "p"),
            ("mending", "mended", TREE, (ROW,), "a", "p"), ("reaching", "row_to_part", TREE, (1, 1)),
            ("reaching", "row_to_result", TREE, "g"), ("reaching", "row_to_deeds", TREE, "q"),
            ("reaching", "row_to_stand", TREE, (((1,), 1),)), ("reaching", "all_deeds", TREE),
            ("texts", "read_tree", "row(if a, do p)"), ("texts", "read_row", "a ddd p d\n")),
    None.__class__: (("judging", "first_fault", TREE, (ROW,)), ("judging", "clash", (ROW,)), ("alike", "parting", TREE, TREE),
                     ("mending", "apart", IF_A, TREE, "a", "p"), ("reaching", "row_to_part", row(IF_A, ("not", IF_A), DO_P), (2,)),
                     ("reaching", "row_to_result", IF_A, "g"), ("reaching", "row_to_deeds", IF_A, "p"),
                     ("reaching", "row_to_stand", IF_A, (((), 1),))),
}


def found(module, name):
    return getattr(importlib.import_module("ticktrees." + module), name)


def no_lists(thing):
    """Whether the thing is nothing but tuples, texts, whole numbers, truths and None."""
    if type(thing) is tuple:
        return all(no_lists(inner) for inner in thing)
    return thing is None or type(thing) in (str, int, bool)


class Interface(unittest.TestCase):
    def takes(self, function, many):
        inspect.signature(function).bind(*range(many))
        for wrong in (many - 1, many + 1):
            if wrong >= 0:
                self.assertRaises(TypeError, inspect.signature(function).bind, *range(wrong))

    def test_functions(self):
        for module, functions in FUNCTIONS.items():
            for name, many in functions.items():
                with self.subTest(name):
                    self.assertTrue(inspect.isfunction(found(module, name)))
                    self.assertEqual(found(module, name).__module__, "ticktrees." + module)
                    self.takes(found(module, name), many)

    def test_classes_have_their_methods_themselves(self):
        for (module, name), (many, methods) in CLASSES.items():
            self.takes(found(module, name), many)
            for method, arguments in methods.items():
                with self.subTest(method):
                    self.assertIn(method, vars(found(module, name)))
                    self.takes(vars(found(module, name))[method], arguments + 1)

    def test_errors(self):
        for name in ERRORS:
            self.assertTrue(issubclass(found("errors", name), ValueError))

    def test_kinds_of_values(self):
        asked = set()
        for kind, calls in KINDS.items():
            for module, name, *arguments in calls:
                with self.subTest(name):
                    asked.add((module, name))
                    told = found(module, name)(*arguments)
                    self.assertIs(type(told), kind)
                    self.assertTrue(no_lists(told))
                    self.assertEqual(found(module, name)(*arguments), told)
        self.assertEqual(asked, {(module, name) for module, functions in FUNCTIONS.items() for name in functions})

    def test_kinds_of_values_of_tickers_and_askers(self):
        ticker, asker = Ticker(TREE), Asker("a", "pq", 3)
        self.assertTrue(no_lists(tuple([ticker.tick(WORLDS[0]), ticker.held(), ticker.told(), ticker.let_go(), ticker.undo()])))
        told = (asker.tell(ROW[1:]), asker.left(), asker.guess(), asker.rows(), asker.ask(), asker.is_settled(), asker.undo())
        self.assertTrue(no_lists(told))
        self.assertEqual([type(one) for one in told], [int, int, tuple, tuple, tuple, bool, type(None)])


if __name__ == "__main__":
    unittest.main()
