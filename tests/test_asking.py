import unittest

from tests.samples import (ALL_WORLDS, DO_P, DO_Q, DO_R, IF_A, IF_B, IF_C, LEAVES, TREES, hold, is_rising, mixed, no,
                           pick, row, told_run, trees_of)
from ticktrees.asking import best_ask, best_next, greatest, groups, settled
from ticktrees.ticking import run, worlds

PQ = hold(DO_P, DO_Q)
# Trees that are alike in pairs, or not at all.
SOME = (IF_A, no(IF_A), DO_P, row(IF_A, IF_A), no(no(IF_A)), no(no(DO_P)), pick(IF_A, DO_P))
CHOICES = (SOME, TREES, LEAVES, tuple(trees_of(3)), tuple(trees_of(2)), (PQ, row(DO_P, DO_Q)), (IF_B,), SOME[::-1] * 2)


def told_groups(trees, some):
    """For each tree the numbers of those that tell the same, each such tuple once."""
    told = [told_run(tree, some) for tree in trees]
    return tuple(sorted({tuple(number for number, other in enumerate(told) if other == one) for one in told}))


def told_best(trees, ahead, senses, deeds):
    """Of all worlds, told how many are together at the most and which it is, the least."""
    return min((max(map(len, told_groups(trees, ahead + (world,)))), world) for world in worlds(senses, deeds))[1]


class Groups(unittest.TestCase):
    def tell(self, trees, some, told):
        for again in range(2):
            self.assertEqual(groups(trees, some), told)
            self.assertEqual(greatest(trees, some), max(len(group) for group in told))

    def test_no_worlds(self):
        self.tell((IF_A,), (), ((0,),))
        self.tell((IF_A, IF_B, DO_P), (), ((0, 1, 2),))
        self.tell(TREES, (), (tuple(range(len(TREES))),))

    def test_trees_that_are_alike(self):
        for some in (ALL_WORLDS[:1], ALL_WORLDS[:7], ALL_WORLDS):
            self.tell((IF_A, IF_A, no(no(IF_A)), row(IF_A, IF_A)), some, ((0, 1, 2, 3),))
        for world in ALL_WORLDS:
            self.tell((PQ, hold(DO_P, DO_Q), PQ), (world, world), ((0, 1, 2),))

    def test_trees_that_each_world_parts(self):
        for world in ALL_WORLDS:
            self.tell((IF_A, no(IF_A)), (world,), ((0,), (1,)))
            self.tell((DO_R, DO_P, DO_Q), (world,), ((0,), (1,), (2,)))

    def test_some_of_them_together(self):
        self.tell(SOME, (("a", "ddd"),), ((0, 3, 4, 6), (1,), (2, 5)))
        self.tell(SOME, (("", "ddd"),), ((0, 3, 4), (1,), (2, 5, 6)))
        self.tell(SOME, (("", "ddd"), ("a", "ddd")), ((0, 3, 4), (1,), (2, 5), (6,)))
        self.tell((DO_P, IF_A, IF_A, IF_A, DO_P), (("", "ddd"),), ((0, 4), (1, 2, 3)))

    def test_by_the_deeds_alone_and_by_the_result_alone(self):
        self.tell((DO_P, DO_Q, DO_P), (("", "ddd"),), ((0, 2), (1,)))
        self.tell((row(DO_P, IF_A), row(DO_P, IF_B)), (("a", "ddd"),), ((0,), (1,)))

    def test_parted_only_behind_places_held(self):
        trees = (PQ, row(DO_P, DO_Q), hold(DO_P, no(no(DO_Q))))
        self.tell(trees, (("", "dgd"),), ((0, 1, 2),))
        self.tell(trees, (("", "ddd"), ("", "ddd")), ((0, 1, 2),))
        self.tell(trees, (("", "dgd"), ("", "ddd")), ((0, 2), (1,)))

    def test_what_was_parted_once_stays_so(self):
        self.tell((IF_A, IF_B), (("a", "ddd"), ("", "ddd"), ("", "ddd")), ((0,), (1,)))

    def test_all_choices(self):
        for trees in CHOICES:
            for some in ((), ALL_WORLDS[40:41], mixed(ALL_WORLDS, 2), mixed(worlds("a", "pq"), 4)):
                told = groups(trees, some)
                self.tell(trees, some, told_groups(trees, some))
                self.assertTrue(is_rising(told))
                self.assertTrue(all(is_rising(group) for group in told))
                self.assertEqual(sorted(sum(told, ())), list(range(len(trees))))

    def test_kinds(self):
        told = groups(SOME, (("a", "ddd"),))
        self.assertIs(type(told), tuple)
        self.assertEqual({type(group) for group in told}, {tuple})
        self.assertIs(type(greatest(SOME, ())), int)

    def test_more_than_nine_trees(self):
        trees = (IF_A, DO_P) * 7
        self.tell(trees, (("", "ddd"),), (tuple(range(0, 14, 2)), tuple(range(1, 14, 2))))


class BestAsk(unittest.TestCase):
    def test_one_tree_and_trees_that_are_alike(self):
        for tree in TREES:
            self.assertEqual(best_ask((tree,), "abc", "pqr"), ("", "ddd"))
            self.assertEqual(best_ask((tree, tree, no(no(tree))), "ac", "q"), ("", "ddd"))

    def test_the_one_that_parts(self):
        self.assertEqual(best_ask((IF_A, IF_B), "ab", ""), ("a", "ddd"))
        self.assertEqual(best_ask((IF_A, IF_B), "ab", "pqr"), ("a", "ddd"))
        self.assertEqual(best_ask((IF_A, IF_B), "b", ""), ("b", "ddd"))
        self.assertEqual(best_ask((IF_A, IF_B), "c", "p"), ("", "ddd"))
        self.assertEqual(best_ask((row(DO_P, DO_Q, DO_R), row(DO_P, DO_Q, no(no(pick(DO_R, DO_P))))), "a", "pqr"),
                         ("", "ddf"))
        self.assertEqual(best_ask((pick(DO_P, DO_Q), DO_P), "a", "pq"), ("", "fdd"))

    def test_the_least_of_several_that_are_as_good(self):
        trees = (IF_A, IF_B, IF_C)
        for world in (("a", "ddd"), ("ab", "ddd"), ("c", "ddd")):
            self.assertEqual(greatest(trees, (world,)), 2)
        self.assertEqual(best_ask(trees, "abc", ""), ("a", "ddd"))
        self.assertEqual(best_ask(trees, "bc", ""), ("b", "ddd"))
        self.assertEqual(best_ask((DO_P, no(DO_P), DO_Q), "", "p"), ("", "ddd"))

    def test_the_greatest_group_counts_not_how_many_groups_there_are(self):
        fewer = (row(IF_A, DO_P), row(IF_A, DO_P), row(IF_A, DO_Q), row(IF_A, DO_Q), row(no(IF_A), DO_P),
                 row(no(IF_A), DO_Q), row(no(IF_A), DO_R))
        self.assertEqual(groups(fewer, (("", "ddd"),)), ((0, 1, 2, 3), (4,), (5,), (6,)))
        self.assertEqual(groups(fewer, (("a", "ddd"),)), ((0, 1), (2, 3), (4, 5, 6)))
        self.assertEqual(best_ask(fewer, "a", ""), ("a", "ddd"))

    def test_no_other_world_leaves_fewer_together(self):
        for trees in CHOICES:
            for senses, deeds in (("abc", ""), ("a", "pq"), ("", "pqr"), ("b", ""), ("", "r"), ("", "")):
                told = best_ask(trees, senses, deeds)
                self.assertEqual(told, told_best(trees, (), senses, deeds))
                self.assertEqual(best_ask(trees, senses, deeds), told)
                for world in worlds(senses, deeds):
                    self.assertLessEqual((greatest(trees, (told,)), told), (greatest(trees, (world,)), world))


class BestNext(unittest.TestCase):
    def test_behind_none(self):
        for trees in CHOICES:
            self.assertEqual(best_next(trees, (), "ab", "pq"), best_ask(trees, "ab", "pq"))

    def test_behind_places_held(self):
        trees = (hold(IF_A, DO_P), row(IF_A, DO_P), IF_A)
        self.assertEqual(best_ask(trees, "a", "p"), ("a", "ddd"))
        self.assertEqual(best_next(trees, (("a", "gdd"),), "a", "p"), ("", "ddd"))
        self.assertEqual(best_next(trees, (("", "gdd"),), "a", "p"), ("a", "ddd"))
        two = (hold(DO_P, DO_Q, DO_R), hold(DO_P, row(DO_Q, DO_R)))
        self.assertEqual(best_next(two, (), "", "pqr"), ("", "ddd"))
        self.assertEqual(best_next(two, (("", "ddg"),), "", "pqr"), ("", "ddd"))
        self.assertEqual(best_next((hold(IF_B, DO_P, DO_Q), hold(IF_B, DO_P, no(no(pick(DO_Q, row(IF_C, DO_R)))))),
                                   (("b", "gdd"),), "bc", "pq"), ("bc", "dfd"))

    def test_what_is_parted_ahead_counts_too(self):
        # Ahead parts the first from the others; of these the world is to part as many as it can.
        trees = (DO_P, IF_A, IF_B, IF_C, row(IF_B, IF_C))
        self.assertEqual(groups(trees, (("", "ddd"),)), ((0,), (1, 2, 3, 4)))
        self.assertEqual(best_next(trees, (("", "ddd"),), "abc", ""), ("ab", "ddd"))
        self.assertEqual(best_next((IF_A, IF_B, IF_B), (("b", "ddd"),), "ab", ""), ("", "ddd"))

    def test_the_least_of_several_that_are_as_good(self):
        self.assertEqual(best_next((IF_A, IF_B, IF_C), (("a", "ddd"),), "abc", ""), ("ab", "ddd"))
        self.assertEqual(best_next((IF_A, IF_B, IF_C), (("a", "ddd"),), "bc", ""), ("b", "ddd"))
        self.assertEqual(best_next((IF_A, IF_B, IF_C), (("a", "ddd"), ("b", "ddd")), "abc", "pqr"), ("", "ddd"))

    def test_no_other_world_leaves_fewer_together(self):
        for trees in CHOICES:
            for ahead in ((("a", "ggg"),), (("", "dgd"), ("a", "gdd")), mixed(worlds("a", "pq"), 3)):
                for senses, deeds in (("ab", ""), ("a", "pq"), ("", "")):
                    told = best_next(trees, ahead, senses, deeds)
                    self.assertEqual(told, told_best(trees, ahead, senses, deeds))
                    self.assertEqual(best_next(trees, ahead, senses, deeds), told)


class Settled(unittest.TestCase):
    def test_rows_that_some_tell(self):
        self.assertEqual(settled(SOME, ((("a", "ddd"), "", "d"),)), (0, 3, 4, 6))
        self.assertEqual(settled(SOME, ((("a", "ddd"), "", "f"),)), (1,))
        self.assertEqual(settled(SOME, ((("a", "ddd"), "p", "d"),)), (2, 5))
        self.assertEqual(settled(SOME, ((("a", "ddd"), "", "d"), (("", "fdd"), "p", "f"))), (6,))
        self.assertEqual(settled((PQ, row(DO_P, DO_Q)), run(PQ, (("", "dgd"), ("", "ddd")))), (0,))

    def test_a_row_of_no_ticks(self):
        self.assertEqual(settled(SOME, ()), tuple(range(len(SOME))))
        self.assertEqual(settled((IF_A,), ()), (0,))

    def test_rows_that_none_tells(self):
        for told in (((("a", "ddd"), "q", "d"),), ((("a", "ddd"), "", "g"),), ((("a", "ddd"), "p", "d"), (("", "ddd"), "", "d"))):
            self.assertEqual(settled(SOME, told), ())

    def test_a_tree_is_among_those_that_are_left_behind_what_it_tells(self):
        for trees in CHOICES:
            for some in (mixed(ALL_WORLDS, 4), (best_ask(trees, "ab", "pq"),), ()):
                some += (best_next(trees, some, "ab", "pq"),)
                told = groups(trees, some)
                for number, tree in enumerate(trees):
                    left = settled(trees, run(tree, some))
                    self.assertIn(number, left)
                    self.assertIn(left, told)
                    self.assertLessEqual(len(left), greatest(trees, some))
                    self.assertIs(type(left), tuple)
                    self.assertEqual(settled(trees, run(tree, some)), left)


if __name__ == "__main__":
    unittest.main()
