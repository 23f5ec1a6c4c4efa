import unittest

from tests.samples import (DO_P, DO_Q, DO_R, IF_A, IF_B, IF_C, hold, mixed, no, pick, row, told_parting, told_run,
                           trees_of)
from ticktrees.alike import are_alike
from ticktrees.askers import Asker
from ticktrees.asking import best_ask
from ticktrees.errors import NoDeed, NoTree, TooMany
from ticktrees.judging import clash, fits
from ticktrees.ticking import run, worlds

LETTERS = (("a", ""), ("", "p"), ("ab", ""), ("b", "q"), ("a", "pq"), ("abc", ""))
LEAVES = {"a": IF_A, "b": IF_B, "c": IF_C, "p": DO_P, "q": DO_Q, "r": DO_R}
NONE_TELLS = ((("", "ddd"), "", "g"),)


def told_trees(letters, most):
    """All trees of up to so many parts over these letters, by sizes, of one size rising."""
    return [tree for many in range(1, most + 1) for tree in sorted(trees_of(many, [LEAVES[letter] for letter in letters]))]


def fitted(trees, rows):
    return [tree for tree in trees if all(told_run(tree, [tick[0] for tick in told]) == told for told in rows)]


def shown(asker):
    """All that an asker tells without being changed."""
    return asker.left(), asker.guess(), asker.rows(), asker.ask(), asker.is_settled()


class Case(unittest.TestCase):
    def tell_all(self, asker, senses, deeds, trees, rows):
        for again in range(2):
            self.assertEqual(asker.left(), len(trees))
            self.assertIs(type(asker.left()), int)
            self.assertEqual(asker.guess(), trees[0])
            self.assertEqual(asker.rows(), tuple(rows))
            self.assertIs(type(asker.rows()), tuple)
            self.assertEqual(asker.ask(), best_ask(tuple(trees[:12]), senses, deeds))
            self.assertIs(asker.is_settled(), all(are_alike(trees[0], tree) for tree in trees))


class AtFirst(Case):
    def test_all_trees_are_left(self):
        for senses, deeds in LETTERS:
            for most in range(1, 5):
                self.tell_all(Asker(senses, deeds, most), senses, deeds, told_trees(senses + deeds, most), [])

    def test_how_many(self):
        for most, many in ((1, 6), (2, 12), (3, 126), (4, 1104)):
            asker = Asker("abc", "pqr", most)
            self.assertEqual(asker.left(), many)
            self.assertEqual(asker.guess(), DO_P)
            self.assertEqual(asker.rows(), ())
        self.assertEqual(Asker("", "r", 1).left(), 1)
        self.assertEqual(Asker("c", "", 2).left(), 2)

    def test_too_many(self):
        for most in (5, 6, 20, 1000000):
            for senses, deeds in LETTERS + (("abc", "pqr"), ("", "")):
                with self.assertRaises(TooMany):
                    Asker(senses, deeds, most)

    def test_somewhat_beyond_the_limits(self):
        for asker in (Asker("a", "p", 0), Asker("a", "p", -1), Asker("", "", 2)):
            self.assertEqual((asker.left(), asker.guess(), asker.rows()), (0, None, ()))
            self.assertEqual(asker.ask(), ("", "ddd"))
            self.assertRaises(NoTree, asker.tell, ())
            self.assertRaises(NoDeed, asker.undo)


class Tell(Case):
    def test_a_row_told(self):
        asker = Asker("ab", "", 2)
        self.assertEqual(asker.left(), 4)
        self.assertEqual(asker.tell(((("a", "ddd"), "", "d"),)), 2)
        self.assertEqual((asker.left(), asker.guess()), (2, IF_A))
        self.assertEqual(asker.tell(((("ab", "ddd"), "", "f"),)), 1)
        self.assertEqual((asker.left(), asker.guess()), (1, no(IF_B)))
        self.assertEqual(asker.rows(), (((("a", "ddd"), "", "d"),), ((("ab", "ddd"), "", "f"),)))

    def test_the_same_again(self):
        asker = Asker("a", "pq", 3)
        told = run(hold(DO_P, DO_Q), (("", "dgd"), ("", "ddd")))
        self.assertEqual(asker.tell(told), 1)
        self.assertEqual(asker.tell(told), 1)
        self.assertEqual((asker.left(), asker.guess(), asker.rows()), (1, hold(DO_P, DO_Q), (told, told)))
        asker = Asker("a", "pq", 3)
        told = run(IF_A, (("", "ddd"),))
        many = asker.tell(told)
        self.assertGreater(many, 1)
        self.assertEqual(asker.tell(told), many)

    def test_a_row_of_no_ticks(self):
        asker = Asker("a", "p", 2)
        self.assertEqual(asker.tell(()), 4)
        self.assertEqual((asker.left(), asker.rows()), (4, ((),)))
        self.assertIsNone(asker.undo())
        self.assertEqual((asker.left(), asker.rows()), (4, ()))

    def test_rows_that_trees_tell(self):
        some = mixed(worlds("a", "pq"), 6)
        trees = told_trees("apq", 4)
        for tree in trees[::9]:
            asker = Asker("a", "pq", 4)
            rows = []
            for number in range(3):
                rows.append(told_run(tree, some[2 * number:2 * number + 2]))
                kept = fitted(trees, rows)
                self.assertEqual(asker.tell(rows[-1]), len(kept))
                self.assertIn(tree, kept)
                self.tell_all(asker, "a", "pq", kept, rows)

    def test_a_row_that_no_tree_tells(self):
        asker = Asker("a", "p", 3)
        for told in ((), run(IF_A, (("", "ddd"),)), run(row(IF_A, DO_P), (("a", "ddd"),))):
            asker.tell(told)
            before = shown(asker)
            for wrong in (NONE_TELLS, ((("", "ddd"), "q", "d"),), told + NONE_TELLS, told + ((("a", "ddd"), "ppp", "f"),)):
                with self.assertRaises(NoTree):
                    asker.tell(wrong)
                self.assertEqual(shown(asker), before)
        # Trees told it at first, but none that is left does.
        with self.assertRaises(NoTree):
            asker.tell(((("a", "ddd"), "", "d"),))
        self.assertEqual(shown(asker), before)
        for number in range(3):
            asker.undo()
        self.assertEqual(shown(asker), shown(Asker("a", "p", 3)))
        self.assertRaises(NoDeed, asker.undo)

    def test_a_row_that_clashes_with_one_told(self):
        asker = Asker("abc", "pqr", 3)
        one, other = run(IF_A, (("a", "ddd"), ("", "ddd"))), run(IF_B, (("a", "ddd"),))
        self.assertIsNotNone(clash((one, other)))
        asker.tell(one)
        before = shown(asker)
        self.assertRaises(NoTree, asker.tell, other)
        self.assertEqual(shown(asker), before)
        asker.undo()
        self.assertGreater(asker.tell(other), 0)


class Guess(Case):
    def test_the_first_left_by_sizes_then_rising(self):
        asker = Asker("abc", "pqr", 3)
        self.assertEqual(asker.guess(), DO_P)
        asker.tell(((("", "ddd"), "", "f"),))
        self.assertEqual(asker.guess(), IF_A)
        asker.tell(((("a", "ddd"), "", "f"),))
        self.assertEqual(asker.guess(), IF_B)
        asker.tell(((("b", "ddd"), "", "f"),))
        asker.tell(((("c", "ddd"), "", "f"),))
        # Of three parts: no smaller one is left.
        self.assertEqual(asker.guess(), hold(IF_A, IF_B))
        # A hold is less than a leaf, but has more parts.
        asker = Asker("a", "", 3)
        self.assertEqual(asker.guess(), IF_A)
        asker.tell(run(IF_A, (("a", "ddd"),)))
        self.assertEqual((asker.guess(), asker.left()), (IF_A, 5))


class Ask(Case):
    def test_best_of_the_first_twelve_left(self):
        for senses, deeds in (("abc", "pqr"), ("ab", "p"), ("a", "pq")):
            asker = Asker(senses, deeds, 3)
            trees = told_trees(senses + deeds, 3)
            self.assertGreater(len(trees), 13)
            self.assertEqual(asker.ask(), best_ask(tuple(trees[:12]), senses, deeds))
        # One fewer, or one more, or all of them would be asked otherwise.
        for senses, told, others in (("ab", ((("a", "ddd"), "", "d"),), (11, 46)), ("a", ((("", "ddd"), "p", "f"),), (13, 17))):
            asker = Asker(senses, "p", 4)
            asker.tell(told)
            kept = tuple(fitted(told_trees(senses + "p", 4), [told]))
            self.assertEqual(asker.ask(), best_ask(kept[:12], senses, "p"))
            for many in others:
                self.assertNotEqual(asker.ask(), best_ask(kept[:many], senses, "p"))

    def test_each_answer_of_a_tree_leaves_it_there(self):
        for tree in told_trees("apq", 3)[::2] + [hold(DO_P, DO_Q), no(IF_A)]:
            asker = Asker("a", "pq", 3)
            for number in range(30):
                many = asker.left()
                asker.tell(told_run(tree, (asker.ask(),)))
                self.assertLessEqual(asker.left(), many)
                self.assertTrue(fits(asker.guess(), asker.rows()))
                self.assertIn(tree, fitted(told_trees("apq", 3), asker.rows()))
                self.assertEqual(asker.left(), len(fitted(told_trees("apq", 3), asker.rows())))


class IsSettled(Case):
    def test_one_left(self):
        self.assertIs(Asker("a", "", 1).is_settled(), True)
        self.assertIs(Asker("", "p", 1).is_settled(), True)

    def test_several_that_are_alike(self):
        asker = Asker("a", "", 3)
        self.assertIs(asker.is_settled(), False)
        asker.tell(run(IF_A, (("a", "ddd"),)))
        self.assertEqual(asker.left(), 5)
        self.assertIs(asker.is_settled(), True)

    def test_several_that_are_not(self):
        self.assertIs(Asker("ab", "", 1).is_settled(), False)
        asker = Asker("", "pq", 3)
        asker.tell(run(hold(DO_P, DO_Q), (("", "ddd"), ("", "gdd"))))
        self.assertEqual(asker.left(), 2)
        self.assertIs(asker.is_settled(), False)
        asker.tell(run(row(DO_P, DO_Q), (("", "dgd"), ("", "dgd"))))
        self.assertEqual((asker.is_settled(), asker.guess()), (True, row(DO_P, DO_Q)))

    def test_only_the_last_one_is_not_alike(self):
        asker = Asker("a", "p", 3)
        asker.tell(run(pick(IF_A, DO_P), (("", "fdd"), ("", "gdd"))))
        kept = fitted(told_trees("ap", 3), asker.rows())
        self.assertEqual(asker.is_settled(), all(told_parting(kept[0], tree, worlds("a", "p"), 2) is None for tree in kept))
        self.assertIs(asker.is_settled(), False)


class Undo(Case):
    def test_none_told(self):
        asker = Asker("a", "p", 2)
        before = shown(asker)
        for again in range(2):
            self.assertRaises(NoDeed, asker.undo)
            self.assertEqual(shown(asker), before)

    def test_of_each(self):
        some = mixed(worlds("a", "pq"), 8)
        for tree in (hold(DO_P, DO_Q), row(IF_A, DO_P), no(no(DO_Q)), IF_A):
            asker = Asker("a", "pq", 4)
            before = []
            for world in some:
                before.append(shown(asker))
                asker.tell(told_run(tree, (world, some[0])))
            while before:
                self.assertIsNone(asker.undo())
                self.assertEqual(shown(asker), before.pop())
            self.assertRaises(NoDeed, asker.undo)
            self.assertEqual(shown(asker), shown(Asker("a", "pq", 4)))

    def test_told_anew_behind_it(self):
        asker = Asker("ab", "", 2)
        one, other = ((("a", "ddd"), "", "d"),), ((("a", "ddd"), "", "f"),)
        asker.tell(one)
        asker.undo()
        self.assertEqual(asker.tell(other), 2)
        self.assertEqual((asker.guess(), asker.rows()), (IF_B, (other,)))
        asker.undo()
        self.assertRaises(NoDeed, asker.undo)


class Several(Case):
    def test_two_askers_do_not_touch_one_another(self):
        one, other = Asker("a", "pq", 3), Asker("a", "pq", 3)
        before = shown(other)
        one.tell(run(hold(DO_P, DO_Q), (("", "dgd"),)))
        self.assertEqual(shown(other), before)
        other.tell(run(IF_A, (("", "ddd"),)))
        self.assertEqual((one.guess(), other.guess()), (hold(DO_P, DO_Q), IF_A))
        one.undo()
        self.assertEqual(shown(one), before)
        self.assertEqual(other.rows(), (run(IF_A, (("", "ddd"),)),))
        self.assertRaises(NoDeed, one.undo)
        other.undo()
        self.assertEqual(shown(other), before)

    def test_rows_that_were_told_stay_as_they_were_handed_out(self):
        asker = Asker("a", "", 1)
        asker.tell(())
        told = asker.rows()
        asker.tell(())
        asker.undo()
        asker.undo()
        self.assertEqual(told, ((),))


if __name__ == "__main__":
    unittest.main()
