import unittest

from tests.samples import (DO_P, DO_Q, DO_R, IF_A, IF_B, IF_C, LEAVES, TREES, hold, is_rising, mixed, no, pick, row,
                           told_run, told_tick, trees_of)
from ticktrees.errors import NoTree, TooMany
from ticktrees.judging import clash, fits
from ticktrees.making import all_trees, fitting, least
from ticktrees.ticking import run, worlds
from ticktrees.trees import is_tree, size

LETTERS = (("a", ""), ("c", ""), ("", "p"), ("", "r"), ("ab", ""), ("", "qr"), ("b", "q"), ("ac", "p"), ("abc", ""),
           ("", "pqr"))
# One row that tells d, and one that tells f, of the same.
CLASHING = (((("", "ddd"), "", "d"),), ((("", "ddd"), "", "f"),))


def leaves_of(senses, deeds):
    return [leaf for leaf in LEAVES if leaf[1] in senses + deeds]


def fitted(tree, rows):
    """Whether the tree tells all rows, by the second telling."""
    for told in rows:
        stand = None
        for world, deeds, result in told:
            mine, done, stand = told_tick(tree, stand, world)
            if (done, mine) != (deeds, result):
                return False
    return True


class AllTrees(unittest.TestCase):
    def test_one_part(self):
        self.assertEqual(all_trees("a", "", 1), (IF_A,))
        self.assertEqual(all_trees("", "r", 1), (DO_R,))
        self.assertEqual(all_trees("ac", "q", 1), (DO_Q, IF_A, IF_C))
        self.assertEqual(all_trees("abc", "pqr", 1), (DO_P, DO_Q, DO_R, IF_A, IF_B, IF_C))

    def test_two_and_three_parts(self):
        self.assertEqual(all_trees("b", "p", 2), (no(DO_P), no(IF_B)))
        self.assertEqual(all_trees("b", "", 3), (hold(IF_B, IF_B), no(no(IF_B)), pick(IF_B, IF_B), row(IF_B, IF_B)))
        two = ((DO_P, DO_P), (DO_P, IF_B), (IF_B, DO_P), (IF_B, IF_B))
        self.assertEqual(all_trees("b", "p", 3), tuple(hold(*parts) for parts in two) + (
            no(no(DO_P)), no(no(IF_B))) + tuple(pick(*parts) for parts in two) + tuple(row(*parts) for parts in two))

    def test_four_parts_of_one_letter(self):
        told = []
        for word in ("hold", "not", "pick", "row"):
            if word == "not":
                told += [no(hold(DO_Q, DO_Q)), no(no(no(DO_Q))), no(pick(DO_Q, DO_Q)), no(row(DO_Q, DO_Q))]
            else:
                told += [(word, (DO_Q, DO_Q, DO_Q)), (word, (DO_Q, no(DO_Q))), (word, (no(DO_Q), DO_Q))]
        self.assertEqual(all_trees("", "q", 4), tuple(told))

    def test_each_number_of_parts(self):
        for senses, deeds in LETTERS:
            for many in range(1, 6):
                told = all_trees(senses, deeds, many)
                self.assertIs(type(told), tuple)
                self.assertEqual(told, tuple(sorted(trees_of(many, leaves_of(senses, deeds)))))
                self.assertTrue(is_rising(told))

    def test_all_letters(self):
        for many, told in ((1, 6), (2, 6), (3, 114), (4, 978), (5, 11022)):
            some = all_trees("abc", "pqr", many)
            self.assertEqual(len(some), told)
            self.assertTrue(is_rising(some))
            self.assertTrue(all(is_tree(tree) and size(tree) == many for tree in some))
            self.assertEqual(all_trees("abc", "pqr", many), some)

    def test_too_many(self):
        for many in (6, 7, 20, 1000000):
            for senses, deeds in LETTERS + (("abc", "pqr"), ("", "")):
                with self.assertRaises(TooMany):
                    all_trees(senses, deeds, many)

    def test_somewhat_beyond_the_limits(self):
        for many in (0, -1, -2):
            self.assertEqual(all_trees("a", "p", many), ())
        self.assertEqual(all_trees("", "", 3), ())


class Fitting(unittest.TestCase):
    def test_no_rows_and_rows_of_no_ticks(self):
        for many in range(1, 5):
            for rows in ((), ((),), ((), ())):
                self.assertEqual(fitting(rows, "a", "pq", many), all_trees("a", "pq", many))

    def test_rows(self):
        told = (run(hold(DO_P, DO_Q), (("", "dgd"), ("", "ddd"))),)
        self.assertEqual(fitting(told, "abc", "pqr", 1), ())
        self.assertEqual(fitting(told, "abc", "pqr", 2), ())
        self.assertEqual(fitting(told, "abc", "pqr", 3), (hold(DO_P, DO_Q),))
        self.assertEqual(fitting(told, "", "p", 3), ())
        self.assertEqual(fitting((((("a", "ddd"), "", "d"),),), "abc", "p", 1), (IF_A,))
        self.assertEqual(fitting((((("a", "ddd"), "", "f"),),), "abc", "p", 1), (IF_B, IF_C))
        self.assertEqual(fitting((((("a", "ddd"), "", "f"),),), "abc", "p", 2), (no(IF_A),))

    def test_rows_told_by_trees(self):
        some = mixed(worlds("a", "pq"), 5)
        for tree in trees_of(1) + trees_of(2) + trees_of(3) + list(TREES):
            rows = (told_run(tree, some[:3]), (), told_run(tree, some[2:]))
            for many in (1, 2, 3, 4):
                told = fitting(rows, "a", "pq", many)
                self.assertEqual(told, tuple(one for one in sorted(trees_of(many)) if fitted(one, rows)))
                if size(tree) == many and tree in trees_of(many):
                    self.assertIn(tree, told)

    def test_five_parts(self):
        tree = row(IF_A, hold(DO_P, DO_Q))
        rows = (told_run(tree, worlds("a", "pq") * 2),)
        told = (hold(row(IF_A, DO_P), DO_Q), tree)
        self.assertEqual(fitting(rows, "abc", "pqr", 5), told)
        self.assertEqual(told, tuple(one for one in all_trees("abc", "pqr", 5) if fitted(one, rows)))
        rows += (told_run(tree, (("a", "dgd"), ("", "ddd"))),)
        self.assertEqual(fitting(rows, "abc", "pqr", 5), (tree,))

    def test_clashing_rows_are_fitted_by_none(self):
        self.assertIsNotNone(clash(CLASHING))
        for many in range(1, 6):
            self.assertEqual(fitting(CLASHING, "ab", "p", many), ())

    def test_too_many(self):
        for rows in ((), ((),), CLASHING, (run(DO_P, (("", "ddd"),)),)):
            for many in (6, 7, 100):
                with self.assertRaises(TooMany):
                    fitting(rows, "a", "p", many)


class Least(unittest.TestCase):
    def test_no_rows(self):
        self.assertEqual(least((), "ab", "q", 3), DO_Q)
        self.assertEqual(least((), "ab", "", 1), IF_A)
        self.assertEqual(least(((), ()), "bc", "", 5), IF_B)

    def test_the_fewest_parts_first(self):
        failing = (((("a", "ddd"), "", "f"),),)
        self.assertEqual(least(failing, "a", "", 5), no(IF_A))
        self.assertEqual(least(failing, "ab", "", 5), IF_B)
        self.assertEqual(least(failing, "ac", "p", 5), IF_C)
        # The word hold is less than if, but such a tree has more parts.
        self.assertEqual(least((((("a", "ddd"), "", "d"),),), "a", "", 5), IF_A)
        self.assertEqual(least((run(row(row(IF_A, IF_A), IF_A), worlds("a", "")),), "a", "", 5), IF_A)

    def test_the_least_of_as_many(self):
        self.assertEqual(least((((("", "ddd"), "", "f"),),), "abc", "pqr", 5), IF_A)
        self.assertEqual(least((((("", "ddd"), "pp", "d"),),), "abc", "pqr", 5), hold(DO_P, DO_P))
        self.assertEqual(least((((("", "gdd"), "p", "g"), (("", "ddd"), "pq", "d")),), "", "pq", 5), hold(DO_P, DO_Q))
        self.assertEqual(least((((("", "dgd"), "pq", "g"), (("", "ddd"), "pq", "d")),), "", "pq", 5), row(DO_P, DO_Q))
        self.assertEqual(least((((("", "dgd"), "pq", "g"), (("", "ddd"), "q", "d")),), "", "pq", 5), hold(DO_P, DO_Q))

    def test_it_fits_and_none_of_fewer_parts_or_less_does(self):
        some = mixed(worlds("a", "pq"), 6)
        for tree in trees_of(1) + trees_of(2) + trees_of(3) + trees_of(4)[::5]:
            rows = (told_run(tree, some), told_run(tree, some[::-1]))
            told = least(rows, "a", "pq", 4)
            self.assertTrue(fits(told, rows))
            fitted_ones = [one for many in (1, 2, 3, 4) for one in sorted(trees_of(many)) if fitted(one, rows)]
            self.assertEqual(told, fitted_ones[0])
            self.assertEqual(least(rows, "a", "pq", size(told)), told)
            self.assertEqual(least(rows, "a", "pq", 5), told)

    def test_five_parts(self):
        for tree in (row(IF_A, hold(DO_P, DO_Q)), pick(IF_A, no(DO_P), DO_Q), hold(DO_P, DO_Q, DO_R, DO_P)):
            rows = (told_run(tree, worlds("a", "pqr") * 2), told_run(tree, mixed(worlds("a", "pqr"), 30)))
            self.assertEqual(least(rows, "abc", "pqr", 5), min(
                [one for one in all_trees("abc", "pqr", 5) if fitted(one, rows)]))
            with self.assertRaises(NoTree):
                least(rows, "abc", "pqr", 4)

    def test_no_tree(self):
        for most in range(1, 6):
            with self.assertRaises(NoTree):
                least(CLASHING, "abc", "p", most)
        rows = (run(hold(DO_P, DO_Q), (("", "dgd"), ("", "ddd"))),)
        for most in (1, 2):
            with self.assertRaises(NoTree):
                least(rows, "abc", "pqr", most)
        for senses, deeds in (("abc", ""), ("", "p"), ("ab", "qr")):
            with self.assertRaises(NoTree):
                least(rows, senses, deeds, 4)
        for most in (0, -1):
            with self.assertRaises(NoTree):
                least((), "a", "p", most)

    def test_too_many_ahead_of_all_else(self):
        for rows in ((), ((),), CLASHING, (run(DO_P, (("", "ddd"),)),)):
            for most in (6, 7, 100):
                for senses, deeds in (("a", "p"), ("abc", "pqr"), ("", "p"), ("c", "")):
                    with self.assertRaises(TooMany):
                        least(rows, senses, deeds, most)

    def test_what_is_refused_changes_nothing(self):
        rows = (run(DO_P, (("", "ddd"),)),)
        told = least(rows, "a", "p", 5)
        self.assertRaises(TooMany, least, rows, "a", "p", 6)
        self.assertRaises(NoTree, least, CLASHING, "a", "p", 3)
        self.assertEqual(least(rows, "a", "p", 5), told)


if __name__ == "__main__":
    unittest.main()
