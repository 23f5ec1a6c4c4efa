import unittest

from tests.samples import (DO_P, DO_Q, DO_R, IF_A, IF_B, IF_C, LEAVES, TREES, hold, is_rising, mixed, no, nots, pick,
                           row, told_run, told_tree, trees_of, wide)
from ticktrees.errors import NoTree
from ticktrees.judging import fits
from ticktrees.mending import apart, changes, mended
from ticktrees.ticking import run, worlds
from ticktrees.trees import deep, size

MANY_WORDS = ("row", "pick", "hold")
SMALL = trees_of(1) + trees_of(2) + trees_of(3) + trees_of(4)
# Wherever one change, or two, of the smaller ones lead.
FIVE = SMALL + trees_of(5)
CLASHING = (((("", "ddd"), "", "d"),), ((("", "ddd"), "", "f"),))
FULL = pick(hold(DO_P, DO_Q, DO_R), row(IF_A, no(IF_B), IF_C, DO_P), no(hold(DO_P, DO_Q)), no(no(DO_R)), IF_B, DO_Q)


def without_one(parts):
    return [parts[:number] + parts[number + 1:] for number in range(len(parts))]


def is_changed(one, other, letters):
    """Whether one change leads from the one to the other, told by the two of them."""
    if one == other:
        return False
    if other == no(one) or one == no(other):
        return True
    if one[0] in ("if", "do"):
        return other[0] in ("if", "do") and other[1] in letters
    if one[0] == "not":
        return other[0] == "not" and is_changed(one[1], other[1], letters)
    parts = one[1]
    if len(parts) == 2 and other in parts:
        return True
    if other[0] not in MANY_WORDS:
        return False
    if other[1] == parts:
        return True
    if other[0] != one[0]:
        return False
    if len(other[1]) == len(parts) - 1:
        return other[1] in without_one(parts)
    if len(other[1]) != len(parts):
        return False
    differing = [number for number in range(len(parts)) if parts[number] != other[1][number]]
    if len(differing) == 1:
        return is_changed(parts[differing[0]], other[1][differing[0]], letters)
    first, last = differing[0], differing[-1]
    return (len(differing) == 2 and last == first + 1
            and (parts[first], parts[last]) == (other[1][last], other[1][first]))


def told_changes(tree, letters, some):
    """Those of some trees that one change leads to."""
    return [other for other in some if is_changed(tree, other, letters)]


def all_fit(tree, rows):
    return all(told_run(tree, [tick[0] for tick in told]) == told for told in rows)


class Changes(unittest.TestCase):
    def tell(self, tree, senses, deeds, told):
        for again in range(2):
            found = changes(tree, senses, deeds)
            self.assertIs(type(found), tuple)
            self.assertEqual(found, tuple(sorted(told)))
            self.assertEqual(len(set(told)), len(told))

    def test_leaves(self):
        self.tell(IF_A, "abc", "pqr", [no(IF_A), IF_B, IF_C, DO_P, DO_Q, DO_R])
        self.tell(DO_Q, "abc", "pqr", [no(DO_Q), IF_A, IF_B, IF_C, DO_P, DO_R])
        self.tell(IF_A, "a", "", [no(IF_A)])
        self.tell(IF_A, "", "", [no(IF_A)])
        self.tell(IF_A, "b", "", [no(IF_A), IF_B])
        self.tell(IF_A, "", "r", [no(IF_A), DO_R])
        self.tell(DO_P, "c", "pq", [no(DO_P), IF_C, DO_Q])

    def test_not(self):
        self.tell(no(IF_A), "", "", [no(no(IF_A)), IF_A])
        self.tell(no(IF_A), "ab", "", [no(no(IF_A)), IF_A, no(IF_B)])
        self.tell(no(no(DO_P)), "", "p", [no(no(no(DO_P))), no(DO_P)])
        self.tell(no(no(DO_P)), "", "q", [no(no(no(DO_P))), no(DO_P), no(no(DO_Q))])

    def test_row_pick_and_hold_of_two(self):
        for word in MANY_WORDS:
            others = [(other, (IF_A, DO_P)) for other in MANY_WORDS if other != word]
            self.tell((word, (IF_A, DO_P)), "", "", others + [
                no((word, (IF_A, DO_P))), (word, (no(IF_A), DO_P)), (word, (IF_A, no(DO_P))), IF_A, DO_P, (word, (DO_P, IF_A))])
            self.tell((word, (IF_A, DO_P)), "a", "q", others + [
                no((word, (IF_A, DO_P))), (word, (no(IF_A), DO_P)), (word, (IF_A, no(DO_P))), IF_A, DO_P, (word, (DO_P, IF_A)),
                (word, (DO_Q, DO_P)), (word, (IF_A, IF_A)), (word, (IF_A, DO_Q))])

    def test_row_pick_and_hold_of_three(self):
        for word in MANY_WORDS:
            others = [(other, (IF_A, DO_P, no(IF_B))) for other in MANY_WORDS if other != word]
            self.tell((word, (IF_A, DO_P, no(IF_B))), "", "", others + [
                no((word, (IF_A, DO_P, no(IF_B)))), (word, (no(IF_A), DO_P, no(IF_B))), (word, (IF_A, no(DO_P), no(IF_B))),
                (word, (IF_A, DO_P, no(no(IF_B)))), (word, (IF_A, DO_P, IF_B)),
                (word, (DO_P, no(IF_B))), (word, (IF_A, no(IF_B))), (word, (IF_A, DO_P)),
                (word, (DO_P, IF_A, no(IF_B))), (word, (IF_A, no(IF_B), DO_P))])

    def test_each_once_and_without_itself(self):
        self.tell(row(IF_A, IF_A), "a", "", [no(row(IF_A, IF_A)), row(no(IF_A), IF_A), row(IF_A, no(IF_A)),
                                             hold(IF_A, IF_A), pick(IF_A, IF_A), IF_A])
        self.tell(hold(DO_P, DO_P, DO_P), "", "", [
            no(hold(DO_P, DO_P, DO_P)), hold(no(DO_P), DO_P, DO_P), hold(DO_P, no(DO_P), DO_P), hold(DO_P, DO_P, no(DO_P)),
            row(DO_P, DO_P, DO_P), pick(DO_P, DO_P, DO_P), hold(DO_P, DO_P)])
        self.tell(pick(IF_A, no(IF_A)), "", "", [
            no(pick(IF_A, no(IF_A))), pick(no(IF_A), no(IF_A)), pick(IF_A, no(no(IF_A))), pick(IF_A, IF_A),
            row(IF_A, no(IF_A)), hold(IF_A, no(IF_A)), IF_A, no(IF_A), pick(no(IF_A), IF_A)])
        for tree in SMALL:
            self.assertNotIn(tree, changes(tree, "a", "pq"))

    def test_one_left_alone_within_another(self):
        found = changes(hold(DO_P, row(IF_A, pick(IF_B, DO_Q))), "", "")
        for tree in (hold(DO_P, IF_A), hold(DO_P, pick(IF_B, DO_Q)), hold(DO_P, row(IF_A, IF_B)), hold(DO_P, row(IF_A, DO_Q)),
                     DO_P, row(IF_A, pick(IF_B, DO_Q))):
            self.assertIn(tree, found)
        # Rows within rows are not made one.
        self.assertIn(row(DO_P, row(IF_A, IF_B)), changes(row(DO_P, row(IF_A, row(IF_B, IF_B))), "", ""))

    def test_neighbours_only(self):
        found = changes(row(IF_A, IF_B, IF_C, DO_P), "", "")
        self.assertEqual([tree for tree in found if tree[0] == "row" and sorted(tree[1]) == [DO_P, IF_A, IF_B, IF_C]],
                         sorted([row(IF_B, IF_A, IF_C, DO_P), row(IF_A, IF_C, IF_B, DO_P), row(IF_A, IF_B, DO_P, IF_C)]))

    def test_all_small_trees(self):
        for tree in SMALL[:36] + SMALL[36::3]:
            self.tell(tree, "a", "pq", told_changes(tree, "apq", FIVE))
        for tree in SMALL[:36]:
            for senses, deeds in (("", ""), ("a", ""), ("", "q")):
                self.tell(tree, senses, deeds, told_changes(tree, senses + deeds, SMALL))

    def test_all_changes_are_trees_and_changes_of_greater_trees(self):
        for tree in TREES + (FULL, wide(19), wide(20), no(wide(19)), nots(4, IF_A), nots(5, IF_A)):
            found = changes(tree, "ab", "pr")
            self.assertTrue(is_rising(found))
            for other in found:
                self.assertTrue(told_tree(other))
                self.assertTrue(is_changed(tree, other, "abpr"), other)
            self.assertEqual(changes(tree, "ab", "pr"), found)
            self.assertLessEqual(set(changes(tree, "", "")), set(found))

    def test_20_parts(self):
        self.assertEqual(size(FULL), 20)
        for tree in (FULL, wide(20), no(wide(19))):
            self.assertEqual(size(tree), 20)
            self.assertTrue(all(size(other) <= 20 for other in changes(tree, "abc", "pqr")))
        self.tell(wide(20), "a", "", [pick(*(IF_A,) * 19), hold(*(IF_A,) * 19), wide(19)])
        self.tell(wide(20), "", "r", [pick(*(IF_A,) * 19), hold(*(IF_A,) * 19), wide(19)] + [
            row(*(IF_A,) * number + (DO_R,) + (IF_A,) * (18 - number)) for number in range(19)])
        self.assertIn(no(wide(19)), changes(wide(19), "", ""))
        self.assertNotIn(no(wide(20)), changes(wide(20), "", ""))
        self.assertEqual(max(size(other) for other in changes(wide(19), "", "")), 20)

    def test_6_levels(self):
        self.tell(nots(5, IF_A), "ab", "", [nots(4, IF_A), nots(5, IF_B)])
        self.tell(nots(4, IF_A), "a", "", [nots(3, IF_A), nots(5, IF_A)])
        tree = row(nots(4, IF_A), no(DO_P))
        self.assertEqual(deep(tree), 6)
        self.tell(tree, "", "", [pick(nots(4, IF_A), no(DO_P)), hold(nots(4, IF_A), no(DO_P)), row(no(DO_P), nots(4, IF_A)),
                                 nots(4, IF_A), no(DO_P), row(nots(3, IF_A), no(DO_P)), row(nots(4, IF_A), DO_P),
                                 row(nots(4, IF_A), no(no(DO_P)))])

    def test_somewhat_beyond_the_limits(self):
        self.tell(wide(21), "ab", "p", [wide(20)])
        self.tell(nots(6, IF_A), "ab", "p", [nots(5, IF_A)])
        self.tell(wide(23), "a", "", [])

    def test_letters_told_count_not_those_that_stand_in_it(self):
        for leaf in LEAVES:
            for senses, deeds in (("abc", ""), ("", "pqr"), ("b", "q"), ("ac", "r"), ("", "")):
                told = [other for other in LEAVES if other[1] in senses + deeds and other != leaf]
                self.tell(leaf, senses, deeds, told + [no(leaf)])
                self.tell(no(leaf), senses, deeds, [no(other) for other in told] + [leaf, no(no(leaf))])


class Mended(unittest.TestCase):
    def tell(self, tree, rows, senses, deeds, told):
        for again in range(2):
            found = mended(tree, rows, senses, deeds)
            self.assertEqual(found, told)
            self.assertEqual((type(found), type(found[0])), (tuple, int))

    def refused(self, tree, rows, senses, deeds):
        for again in range(2):
            with self.assertRaises(NoTree):
                mended(tree, rows, senses, deeds)

    def test_no_change(self):
        for tree in TREES + (FULL, wide(20), nots(5, IF_A)):
            self.tell(tree, (), "abc", "pqr", (0, tree))
            self.tell(tree, ((), ()), "", "", (0, tree))
            self.tell(tree, (told_run(tree, worlds("ab", "pq")), told_run(tree, mixed(worlds("c", "r"), 9))), "abc", "pqr", (0, tree))

    def test_one_change(self):
        some = worlds("ab", "pqr") * 2
        for tree, other in ((IF_A, no(IF_A)), (no(DO_P), DO_P), (IF_A, DO_R), (row(DO_P, DO_Q), hold(DO_P, DO_Q)),
                            (hold(DO_P, DO_Q), pick(DO_P, DO_Q)), (row(DO_P, DO_Q, DO_R), row(DO_P, DO_R)),
                            (hold(DO_P, DO_Q, DO_R), hold(DO_Q, DO_P, DO_R)), (row(DO_P, DO_Q), DO_Q),
                            (row(IF_A, hold(DO_P, DO_Q)), row(IF_B, hold(DO_P, DO_Q)))):
            self.tell(tree, (told_run(tree, ()), told_run(other, some)), "ab", "pqr", (1, other))

    def test_two_changes(self):
        some = worlds("ab", "pqr") * 2
        for tree, other in ((IF_A, no(DO_P)), (row(DO_P, DO_Q), hold(DO_Q, DO_P)), (no(hold(DO_P, DO_Q)), pick(DO_P, DO_Q)),
                            (row(DO_P, DO_Q, DO_R), row(DO_R, DO_P, DO_Q)), (row(DO_P, DO_R), no(DO_R)),
                            (hold(DO_P, DO_Q, DO_R), hold(DO_Q, DO_P, IF_A))):
            found = mended(tree, (told_run(other, some),), "ab", "pqr")
            self.assertEqual(found[0], 2)
            self.assertLessEqual(found[1], other)
            self.assertTrue(all_fit(found[1], (told_run(other, some),)))
        self.tell(IF_A, (told_run(no(DO_P), some),), "ab", "pqr", (2, no(DO_P)))
        self.tell(hold(DO_P, DO_Q), (told_run(row(DO_Q, DO_P), some),), "", "", (2, row(DO_Q, DO_P)))

    def test_the_least_of_several(self):
        # Any other leaf, and the tree in a not, fit as well.
        self.tell(IF_A, (((("a", "ddd"), "", "f"),),), "abc", "", (1, IF_B))
        self.tell(IF_A, (((("a", "ddd"), "", "f"),),), "a", "", (1, no(IF_A)))
        self.tell(IF_A, (((("a", "ddd"), "", "f"),),), "ac", "", (1, IF_C))
        self.tell(row(IF_A, IF_B), (((("", "ddd"), "", "d"),),), "", "", (1, no(row(IF_A, IF_B))))
        self.tell(row(DO_P, DO_Q), (((("", "dfd"), "p", "d"),),), "", "", (1, DO_P))
        self.tell(row(DO_P, DO_Q), (((("", "ffd"), "pq", "f"),),), "", "pq", (1, pick(DO_P, DO_Q)))
        self.tell(row(DO_P, DO_Q), (((("", "fdd"), "pq", "d"),),), "", "pq", (1, pick(DO_P, DO_Q)))

    def test_none_one_or_two_as_the_rows_tell_more(self):
        tree, some = row(IF_A, DO_P), worlds("ab", "pq")
        rows = (told_run(tree, some),)
        self.tell(tree, rows, "ab", "pq", (0, tree))
        self.tell(tree, (told_run(row(IF_B, DO_P), some),), "ab", "pq", (1, row(IF_B, DO_P)))
        self.tell(tree, (told_run(row(IF_B, DO_Q), some),), "ab", "pq", (2, row(IF_B, DO_Q)))
        self.refused(tree, (told_run(no(row(IF_B, DO_Q)), some),), "ab", "pq")

    def test_no_tree_where_three_are_needed(self):
        some = worlds("abc", "pqr")
        self.refused(row(IF_A, IF_B, DO_P), (told_run(row(DO_P, DO_Q, DO_R), some),), "abc", "pqr")
        self.refused(IF_A, (told_run(no(row(DO_P, DO_Q)), some),), "abc", "pqr")
        self.refused(hold(DO_P, DO_Q), (told_run(no(row(DO_Q, DO_P)), some * 2),), "", "")

    def test_no_tree_of_clashing_rows_and_of_letters_that_are_not_told(self):
        for tree in (IF_A, row(IF_A, DO_P), hold(DO_P, DO_Q)):
            self.refused(tree, CLASHING, "abc", "pqr")
        rows = (told_run(DO_Q, worlds("", "q")),)
        self.tell(DO_P, rows, "", "q", (1, DO_Q))
        for senses, deeds in (("", ""), ("abc", ""), ("", "p"), ("a", "pr")):
            self.refused(DO_P, rows, senses, deeds)

    def test_all_on_the_way_are_trees(self):
        # One not more would tell it, but is on 7 levels, or the 21st part.
        self.tell(nots(5, IF_A), (told_run(no(IF_A), worlds("a", "")),), "a", "", (0, nots(5, IF_A)))
        self.tell(nots(5, IF_A), (told_run(IF_A, worlds("a", "")),), "a", "", (1, nots(4, IF_A)))
        wide_deeds = row(*(DO_P,) * 19)
        rows = (told_run(no(wide_deeds), worlds("", "p")),)
        self.assertEqual(size(wide_deeds), 20)
        self.refused(wide_deeds, rows, "", "")
        rows = (told_run(no(row(*(DO_P,) * 18)), worlds("", "p")),)
        self.tell(row(*(DO_P,) * 18), rows, "", "", (1, no(row(*(DO_P,) * 18))))
        self.tell(wide_deeds, rows, "", "", (2, no(row(*(DO_P,) * 18))))

    def test_it_fits_and_no_fewer_changes_lead_to_one(self):
        some = mixed(worlds("a", "pq"), 8)
        asked = {0: 0, 1: 0, 2: 0, None: 0}
        near = {}
        for number, tree in enumerate(SMALL[:36]):
            for other in SMALL[number % 7::7]:
                rows = (told_run(other, some), told_run(other, some[::-1]))
                told = self.told_mended(tree, rows, near)
                asked[told and told[0]] += 1
                if told is None:
                    self.refused(tree, rows, "a", "pq")
                else:
                    self.tell(tree, rows, "a", "pq", told)
                    self.assertTrue(fits(told[1], rows))
        self.assertGreater(min(asked.values()), 10)

    def told_mended(self, tree, rows, near):
        """What the document tells, by the trees that are near to others, which are kept."""
        trees = [tree]
        for many in range(3):
            fitting = [one for one in trees if all_fit(one, rows)]
            if fitting:
                return many, min(fitting)
            for one in trees:
                if one not in near and many < 2:
                    near[one] = told_changes(one, "apq", FIVE)
            trees = [] if many == 2 else {other for one in trees for other in near[one]}
        return None


class Apart(unittest.TestCase):
    def tell(self, one, other, senses, deeds, told):
        for again in range(2):
            found = apart(one, other, senses, deeds)
            self.assertEqual(found, told, (one, other))
            self.assertIs(type(found), type(told))

    def test_none(self):
        for tree in TREES + (FULL, wide(20)):
            self.tell(tree, tree, "abc", "pqr", 0)
            self.tell(tree, tree, "", "", 0)

    def test_one(self):
        for tree in TREES:
            for other in changes(tree, "ab", "pq")[::3]:
                self.tell(tree, other, "ab", "pq", 1)

    def test_two(self):
        for one, other in ((IF_A, no(no(IF_A))), (no(no(IF_A)), IF_A), (IF_A, no(DO_P)), (row(IF_A, DO_P), hold(DO_P, IF_A)),
                           (row(IF_A, IF_B, DO_P), DO_P), (row(IF_A, IF_B, DO_P), row(DO_P, IF_A, IF_B)),
                           (row(no(IF_A), no(DO_P)), row(IF_A, DO_P)), (hold(DO_P, row(IF_A, IF_B)), IF_A)):
            self.tell(one, other, "ab", "p", 2)

    def test_more_than_two(self):
        for one, other in ((IF_A, nots(3, IF_A)), (nots(3, IF_A), IF_A), (row(IF_A, IF_B, IF_C), pick(DO_P, DO_P, IF_C)),
                           (row(IF_A, IF_B, IF_C, DO_P), DO_P), (no(row(IF_A, DO_P)), hold(DO_P, IF_A)), (FULL, IF_A)):
            self.tell(one, other, "abc", "pqr", None)

    def test_exchanges(self):
        self.tell(row(IF_A, IF_B, IF_C), row(IF_B, IF_A, IF_C), "", "", 1)
        self.tell(row(IF_A, IF_B, IF_C), row(IF_B, IF_C, IF_A), "", "", 2)
        self.tell(row(IF_A, IF_B, IF_C), row(IF_C, IF_B, IF_A), "", "", None)
        # Two leaves changed do the same.
        self.tell(row(IF_A, IF_B, IF_C), row(IF_C, IF_B, IF_A), "abc", "", 2)

    def test_there_may_be_no_way_back(self):
        self.tell(row(IF_A, DO_P), IF_A, "a", "p", 1)
        self.tell(IF_A, row(IF_A, DO_P), "a", "p", None)
        self.tell(hold(DO_P, DO_Q, DO_R), DO_P, "", "pqr", 2)
        self.tell(DO_P, hold(DO_P, DO_Q, DO_R), "", "pqr", None)

    def test_letters_that_are_not_told(self):
        self.tell(IF_A, IF_B, "b", "", 1)
        self.tell(IF_A, IF_B, "a", "pqr", None)
        self.tell(IF_A, no(DO_P), "abc", "p", 2)
        self.tell(IF_A, no(DO_P), "abc", "q", None)

    def test_all_on_the_way_are_trees(self):
        self.tell(wide(20), no(wide(19)), "", "", 2)
        self.tell(wide(20), no(wide(20)), "abc", "pqr", None)
        self.tell(nots(5, IF_A), no(nots(5, IF_A)), "abc", "pqr", None)
        # By a not put in and one left out it would be two as well, but only the other way round.
        self.tell(row(no(IF_A), nots(4, IF_A)), row(IF_A, nots(4, IF_A)), "", "", 1)
        twenty = row(no(IF_A), *(DO_P,) * 17)
        self.assertEqual(size(twenty), 20)
        self.tell(twenty, row(IF_A, no(DO_P), *(DO_P,) * 16), "", "", 2)

    def test_small_trees(self):
        near = {tree: set(told_changes(tree, "apq", FIVE)) for tree in SMALL[:36]}
        for one in SMALL[:36:2]:
            found = set.union(*[near.get(other) or set(told_changes(other, "apq", FIVE)) for other in near[one]])
            for other in SMALL[::3]:
                told = 0 if other == one else 1 if other in near[one] else 2 if other in found else None
                self.assertEqual(apart(one, other, "a", "pq"), told)

    def test_mended_is_as_far_apart_as_it_tells(self):
        some = worlds("a", "pq")
        for tree in TREES[6:12]:
            for other in changes(tree, "a", "pq")[::5]:
                many, found = mended(tree, (run(other, some),), "a", "pq")
                self.assertEqual(apart(tree, found, "a", "pq"), many)
                self.assertLessEqual(many, 1)


if __name__ == "__main__":
    unittest.main()
