import unittest

from tests.samples import (DO_P, DO_Q, DO_R, IF_A, IF_B, IF_C, JUNK, LEAVES, TREES, hold, nested, no, nots, pick, row,
                           spoilt, told_tree, trees_of, wide)
from ticktrees.errors import BadTree, NoPart
from ticktrees.ticking import run, worlds
from ticktrees.trees import changed, deeds_of, deep, is_tree, part_at, plain, senses_of, size, ways


class IsTree(unittest.TestCase):
    def test_each_kind_of_tree(self):
        for tree in TREES:
            self.assertIs(is_tree(tree), True, tree)

    def test_trees_spoilt_at_any_place(self):
        asked = {True: 0, False: 0}
        for tree in TREES:
            for thing in spoilt(tree):
                asked[told_tree(thing)] += 1
                self.assertIs(is_tree(thing), told_tree(thing), thing)
        self.assertGreater(min(asked.values()), 200)

    def test_letters_and_words(self):
        for sense in ("a", "b", "c"):
            self.assertIs(is_tree(("if", sense)), True)
            self.assertIs(is_tree(("do", sense)), False)
        for deed in ("p", "q", "r"):
            self.assertIs(is_tree(("do", deed)), True)
            self.assertIs(is_tree(("if", deed)), False)
        for inner in ("", "ab", "abc", "bc", "A", "d", "a ", 0, 1, True, None, ("a",), ["a"], ()):
            self.assertIs(is_tree(("if", inner)), False, inner)
        for inner in ("", "pq", "pqr", "qr", "P", "s", "p\n", 0, False, None, ("p",), ["p"], ()):
            self.assertIs(is_tree(("do", inner)), False, inner)
        for word in ("", "IF", "iff", "rows", "holdrow", "row ", 0, True, None, (), [], ("row",), ["row"]):
            self.assertIs(is_tree((word, (IF_A, IF_B))), False, word)
            self.assertIs(is_tree((word, IF_A)), False, word)
            self.assertIs(is_tree((word, "a")), False, word)

    def test_none_one_and_two_parts(self):
        for word in ("row", "pick", "hold"):
            self.assertIs(is_tree((word, ())), False)
            self.assertIs(is_tree((word, (IF_A,))), False)
            self.assertIs(is_tree((word, (IF_A, IF_A))), True)
            self.assertIs(is_tree((word, IF_A, IF_A)), False)
            self.assertIs(is_tree((word, IF_A)), False)
            self.assertIs(is_tree((word,)), False)
        self.assertIs(is_tree(("not", (IF_A,))), False)
        self.assertIs(is_tree(("not", (IF_A, IF_B))), False)
        self.assertIs(is_tree(("not", IF_A, IF_B)), False)
        self.assertIs(is_tree(("not",)), False)

    def test_lists_for_tuples(self):
        self.assertIs(is_tree(["if", "a"]), False)
        self.assertIs(is_tree(("not", ["if", "a"])), False)
        self.assertIs(is_tree(["not", IF_A]), False)
        self.assertIs(is_tree(("row", [IF_A, IF_B])), False)
        self.assertIs(is_tree(("row", (IF_A, ["if", "b"]))), False)

    def test_20_parts_and_21(self):
        self.assertIs(is_tree(wide(20)), True)
        self.assertIs(is_tree(wide(21)), False)
        for word in ("row", "pick", "hold"):
            twenty = (word, (wide(6), no(wide(5)), pick(IF_A, IF_B), DO_P, DO_Q, DO_R, DO_P))
            self.assertEqual(size(twenty), 20)
            self.assertIs(is_tree(twenty), True)
            for number in range(len(twenty[1])):
                more = twenty[1][:number] + (no(twenty[1][number]),) + twenty[1][number + 1:]
                self.assertIs(is_tree((word, more)), False, number)
        self.assertIs(is_tree(no(wide(19))), True)
        self.assertIs(is_tree(no(wide(20))), False)
        self.assertIs(is_tree(wide(500)), False)

    def test_6_levels_and_7(self):
        for leaf in (IF_A, DO_P):
            self.assertIs(is_tree(nots(5, leaf)), True)
            self.assertIs(is_tree(nots(6, leaf)), False)
            self.assertIs(is_tree(nots(7, leaf)), False)
        for put in (lambda part: row(IF_A, part), lambda part: pick(part, IF_B), lambda part: hold(DO_P, part)):
            tree = IF_A
            for levels in range(1, 10):
                self.assertIs(is_tree(tree), levels <= 6, tree)
                tree = put(tree)

    def test_things_that_are_no_trees_at_all(self):
        for thing in JUNK:
            self.assertIs(is_tree(thing), False, thing)
            for levels in range(9):
                self.assertIs(is_tree(nested(levels, thing)), False, thing)
            for word in ("if", "do", "not", "row", "pick", "hold"):
                self.assertIs(is_tree((word, thing)), told_tree((word, thing)), thing)
                self.assertIs(is_tree((word, (thing, thing))), False, thing)
                self.assertIs(is_tree((word, [thing, thing])), False, thing)

    def test_the_same_is_told_again_and_nothing_is_changed(self):
        thing = ["row", [["if", "a"], ("if", "b")]]
        self.assertIs(is_tree(thing), False)
        self.assertIs(is_tree(thing), False)
        self.assertEqual(thing, ["row", [["if", "a"], ("if", "b")]])


class Measures(unittest.TestCase):
    def test_size(self):
        for leaf in LEAVES:
            self.assertEqual(size(leaf), 1)
        self.assertEqual(size(no(no(IF_A))), 3)
        self.assertEqual(size(row(IF_A, IF_A)), 3)
        self.assertEqual(size(pick(no(IF_A), hold(DO_P, DO_Q, DO_R))), 7)
        self.assertEqual(size(wide(20)), 20)

    def test_deep(self):
        for leaf in LEAVES:
            self.assertEqual(deep(leaf), 1)
        self.assertEqual(deep(no(IF_A)), 2)
        self.assertEqual(deep(row(IF_A, IF_A)), 2)
        self.assertEqual(deep(pick(IF_A, no(no(IF_B)), no(IF_C))), 4)
        self.assertEqual(deep(hold(no(row(IF_A, no(DO_P))), IF_A)), 5)
        self.assertEqual(deep(nots(5, IF_A)), 6)

    def test_somewhat_beyond_the_limits(self):
        self.assertEqual(size(wide(25)), 25)
        self.assertEqual(deep(nots(8, IF_A)), 9)
        self.assertEqual(len(ways(wide(25))), 25)
        self.assertEqual(part_at(nots(8, IF_A), (0,) * 8), IF_A)

    def test_ways(self):
        self.assertEqual(ways(IF_A), ((),))
        self.assertEqual(ways(no(DO_P)), ((), (0,)))
        self.assertEqual(ways(row(IF_A, DO_P)), ((), (0,), (1,)))
        self.assertEqual(ways(hold(no(IF_A), pick(IF_A, no(IF_B), IF_C), DO_P)),
                         ((), (0,), (0, 0), (1,), (1, 0), (1, 1), (1, 1, 0), (1, 2), (2,)))
        self.assertEqual(ways(wide(14))[-2:], ((11,), (12,)))

    def test_as_many_ways_as_parts(self):
        for tree in TREES:
            self.assertEqual(len(ways(tree)), size(tree))
            self.assertEqual(max(len(way) for way in ways(tree)) + 1, deep(tree))
            self.assertEqual(len(set(ways(tree))), size(tree))

    def test_senses_and_deeds(self):
        tree = row(IF_C, no(IF_A), pick(DO_R, IF_C, hold(DO_P, DO_R)))
        self.assertEqual(senses_of(tree), "ac")
        self.assertEqual(deeds_of(tree), "pr")
        self.assertEqual((senses_of(IF_B), deeds_of(IF_B)), ("b", ""))
        self.assertEqual((senses_of(DO_Q), deeds_of(DO_Q)), ("", "q"))
        self.assertEqual(senses_of(pick(IF_C, IF_B, IF_A, IF_B)), "abc")
        self.assertEqual(deeds_of(hold(DO_R, no(no(DO_Q)), DO_P)), "pqr")


class PartAt(unittest.TestCase):
    def test_parts(self):
        tree = hold(no(IF_A), pick(IF_B, row(DO_P, DO_Q)))
        self.assertEqual(part_at(tree, ()), tree)
        self.assertEqual(part_at(tree, (0,)), no(IF_A))
        self.assertEqual(part_at(tree, (0, 0)), IF_A)
        self.assertEqual(part_at(tree, (1,)), pick(IF_B, row(DO_P, DO_Q)))
        self.assertEqual(part_at(tree, (1, 0)), IF_B)
        self.assertEqual(part_at(tree, (1, 1, 1)), DO_Q)
        self.assertEqual(part_at(IF_A, ()), IF_A)

    def test_ways_that_lead_nowhere(self):
        tree = hold(no(IF_A), pick(IF_B, row(DO_P, DO_Q)))
        for way in ((2,), (-1,), (0, 1), (0, -1), (0, 0, 0), (1, 2), (1, 0, 0), (1, 1, 2), (1, -1, 1), (99, 0), (5, -5)):
            with self.subTest(way), self.assertRaises(NoPart):
                part_at(tree, way)
        for leaf in LEAVES:
            for way in ((0,), (1,), (-1,), (-2,), (0, 0)):
                with self.subTest((leaf, way)), self.assertRaises(NoPart):
                    part_at(leaf, way)

    def test_truths_and_other_things_are_no_numbers(self):
        for way in ((True,), (False,), (0, False), (1, True), (None,), ("0",), ((),), (0, "a")):
            with self.subTest(way), self.assertRaises(NoPart):
                part_at(hold(no(IF_A), pick(IF_B, IF_C)), way)


class Changed(unittest.TestCase):
    def test_each_place(self):
        tree = hold(no(IF_A), pick(IF_B, DO_P))
        self.assertEqual(changed(tree, (), DO_R), DO_R)
        self.assertEqual(changed(tree, (0,), DO_R), hold(DO_R, pick(IF_B, DO_P)))
        self.assertEqual(changed(tree, (0, 0), DO_R), hold(no(DO_R), pick(IF_B, DO_P)))
        self.assertEqual(changed(tree, (1,), no(DO_R)), hold(no(IF_A), no(DO_R)))
        self.assertEqual(changed(tree, (1, 0), DO_R), hold(no(IF_A), pick(DO_R, DO_P)))
        self.assertEqual(changed(tree, (1, 1), row(DO_R, DO_Q)), hold(no(IF_A), pick(IF_B, row(DO_R, DO_Q))))
        self.assertEqual(tree, hold(no(IF_A), pick(IF_B, DO_P)))

    def test_the_part_is_then_there_and_no_other_is_changed(self):
        for tree in TREES:
            for way in ways(tree):
                self.assertEqual(changed(tree, way, part_at(tree, way)), tree)
                new = changed(tree, way, ("do", "r"))
                self.assertEqual(part_at(new, way), DO_R)
                for other in ways(tree):
                    if len(other) == len(way) and other != way:
                        self.assertEqual(part_at(new, other), part_at(tree, other))

    def test_ways_that_lead_nowhere(self):
        for way in ((2,), (-1,), (0, 0), (1, 1), (1, 0, 0), (True,)):
            with self.subTest(way), self.assertRaises(NoPart):
                changed(row(IF_A, no(DO_P)), way, DO_Q)
        with self.assertRaises(NoPart):
            changed(IF_A, (0,), IF_B)

    def test_what_is_no_tree(self):
        for thing in JUNK:
            for way in ((), (0,), (1,), (1, 0)):
                with self.subTest((thing, way)), self.assertRaises(BadTree):
                    changed(row(IF_A, no(DO_P)), way, thing)

    def test_too_many_parts(self):
        self.assertEqual(changed(wide(18), (3,), row(IF_A, IF_B)), wide(18)[:1] + (
            (IF_A,) * 3 + (row(IF_A, IF_B),) + (IF_A,) * 13,))
        for new in (row(IF_A, IF_B, IF_C), no(row(IF_A, IF_B)), wide(20)):
            with self.subTest(new), self.assertRaises(BadTree):
                changed(wide(18), (3,), new)
        with self.assertRaises(BadTree):
            changed(IF_A, (), wide(21))
        self.assertEqual(changed(wide(20), (0,), IF_B)[1][0], IF_B)

    def test_too_many_levels(self):
        self.assertEqual(changed(nots(4, IF_A), (0,) * 4, no(IF_B)), nots(5, IF_B))
        with self.assertRaises(BadTree):
            changed(nots(4, IF_A), (0,) * 4, no(no(IF_B)))
        with self.assertRaises(BadTree):
            changed(nots(5, IF_A), (0,) * 5, no(IF_A))
        with self.assertRaises(BadTree):
            changed(IF_A, (), nots(6, IF_A))

    def test_no_part_is_told_ahead_of_bad_tree(self):
        for new in (None, ("if", "x"), wide(21), nots(6, IF_A)):
            with self.subTest(new), self.assertRaises(NoPart):
                changed(row(IF_A, IF_B), (2,), new)
            with self.subTest(new), self.assertRaises(NoPart):
                changed(IF_A, (0,), new)


class Plain(unittest.TestCase):
    def test_leaves_and_what_is_plain_already(self):
        for tree in LEAVES + (no(IF_A), row(IF_A, pick(IF_B, DO_P)), pick(row(IF_A, IF_B), no(DO_P)),
                              hold(hold(DO_P, DO_Q), DO_R), row(IF_A, no(row(IF_B, IF_C)))):
            self.assertEqual(plain(tree), tree)

    def test_rows_in_rows_and_picks_in_picks(self):
        self.assertEqual(plain(row(row(IF_A, IF_B), row(DO_P, DO_Q))), row(IF_A, IF_B, DO_P, DO_Q))
        self.assertEqual(plain(pick(IF_A, pick(IF_B, pick(IF_C, DO_P)), DO_Q)), pick(IF_A, IF_B, IF_C, DO_P, DO_Q))
        self.assertEqual(plain(row(pick(IF_A, pick(IF_B, IF_C)), row(DO_P, DO_Q))),
                         row(pick(IF_A, IF_B, IF_C), DO_P, DO_Q))

    def test_holds_stay(self):
        self.assertEqual(plain(hold(hold(DO_P, DO_Q), row(IF_A, row(IF_B, IF_C)))),
                         hold(hold(DO_P, DO_Q), row(IF_A, IF_B, IF_C)))
        self.assertEqual(plain(row(hold(DO_P, DO_Q), IF_A)), row(hold(DO_P, DO_Q), IF_A))
        self.assertEqual(plain(pick(hold(DO_P, DO_Q), row(IF_A, IF_B))), pick(hold(DO_P, DO_Q), row(IF_A, IF_B)))

    def test_nots(self):
        self.assertEqual(plain(nots(2, IF_A)), IF_A)
        self.assertEqual(plain(nots(3, IF_A)), no(IF_A))
        self.assertEqual(plain(nots(4, IF_A)), IF_A)
        self.assertEqual(plain(nots(5, IF_A)), no(IF_A))
        self.assertEqual(plain(hold(no(no(DO_P)), no(pick(no(no(IF_A)), IF_B)))), hold(DO_P, no(pick(IF_A, IF_B))))

    def test_from_the_innermost_on(self):
        self.assertEqual(plain(row(no(no(row(IF_A, IF_B))), DO_P)), row(IF_A, IF_B, DO_P))
        self.assertEqual(plain(pick(DO_P, no(no(pick(IF_A, no(no(pick(IF_B, IF_C)))))))), pick(DO_P, IF_A, IF_B, IF_C))
        self.assertEqual(plain(no(no(row(row(IF_A, IF_B), IF_C)))), row(IF_A, IF_B, IF_C))
        self.assertEqual(plain(no(row(no(no(no(IF_A))), row(IF_B, IF_C)))), no(row(no(IF_A), IF_B, IF_C)))

    def test_all_small_trees(self):
        some = worlds("a", "pq")
        for tree in trees_of(4) + list(TREES):
            new = plain(tree)
            self.assertTrue(is_tree(new))
            self.assertEqual(plain(new), new)
            for way in ways(new)[1:]:
                above, below = part_at(new, way[:-1])[0], part_at(new, way)[0]
                self.assertTrue(above == "hold" or above != below, new)
            for step in (1, 5, 7):
                rows = (some * step)[::step]
                self.assertEqual(run(new, rows), run(tree, rows))


if __name__ == "__main__":
    unittest.main()
