import itertools
import unittest

from tests.samples import (ALL_WORLDS, DO_P, DO_Q, DO_R, IF_A, IF_B, IF_C, LEAVES, TREES, hold, is_rising, no, nots,
                           pick, row, told_parting, told_reached, told_run, trees_of, wide)
from ticktrees.alike import are_alike, lean, never, parting, results, stands
from ticktrees.ticking import run
from ticktrees.trees import deeds_of, is_tree, plain, senses_of, size, ways

# Of these always comes: d, f, f or g, d or g.
ALWAYS = pick(IF_A, no(IF_A))
NOWHERE = row(IF_A, no(IF_A))
NOT_DONE = row(DO_P, no(DO_P))
NOT_FAILED = pick(DO_P, no(DO_P))


def worlds_of(*trees):
    """Of all worlds those in which only what stands in these trees is not as if it was not there."""
    senses, deeds = "".join(map(senses_of, trees)), "".join(map(deeds_of, trees))
    return [world for world in ALL_WORLDS if set(world[0]) <= set(senses)
            and all(sign == "d" or deed in deeds for deed, sign in zip("pqr", world[1]))]


class Parting(unittest.TestCase):
    def tell(self, one, other, told):
        self.assertEqual(parting(one, other), told)
        self.assertEqual(parting(other, one), told)
        self.assertIs(are_alike(one, other), told is None)
        self.assertIs(are_alike(other, one), told is None)

    def test_in_the_first_tick(self):
        self.tell(IF_A, no(IF_A), (("", "ddd"),))
        self.tell(DO_P, DO_Q, (("", "ddd"),))
        self.tell(IF_A, IF_B, (("a", "ddd"),))
        self.tell(IF_B, IF_C, (("b", "ddd"),))
        self.tell(row(DO_P, DO_Q), pick(DO_P, DO_Q), (("", "ddd"),))
        self.tell(row(DO_P, DO_Q), row(DO_Q, DO_P), (("", "ddd"),))
        self.tell(row(IF_A, DO_P), row(IF_B, DO_P), (("a", "ddd"),))
        self.tell(DO_P, row(DO_P, DO_P), (("", "ddd"),))
        self.tell(row(IF_A, IF_B, IF_C, DO_P), row(IF_A, IF_B, IF_C, DO_Q), (("abc", "ddd"),))
        self.tell(row(IF_A, IF_B, IF_C, DO_P), row(IF_A, IF_B, IF_C, no(DO_P)), (("abc", "ddd"),))
        self.tell(pick(DO_P, DO_Q, DO_R), pick(DO_P, DO_Q, no(DO_R)), (("", "ffd"),))

    def test_by_the_deeds_alone_and_by_the_result_alone(self):
        self.tell(pick(DO_P, DO_Q), pick(DO_P, DO_R), (("", "fdd"),))
        self.tell(row(DO_P, IF_A), row(DO_P, no(IF_A)), (("", "ddd"),))
        self.tell(pick(DO_P, IF_A), pick(DO_P, no(IF_A)), (("", "fdd"),))

    def test_by_what_stands_in_one_of_them_only(self):
        self.tell(IF_A, row(IF_A, IF_B), (("a", "ddd"),))
        self.tell(IF_A, pick(IF_A, IF_C), (("c", "ddd"),))
        self.tell(no(DO_P), no(pick(DO_P, row(IF_C, DO_R))), (("c", "fdd"),))

    def test_only_behind_places_held(self):
        self.tell(hold(DO_P, DO_Q), row(DO_P, DO_Q), (("", "dgd"), ("", "ddd")))
        self.tell(hold(DO_P, DO_Q, DO_R), hold(DO_P, row(DO_Q, DO_R)), (("", "ddg"), ("", "ddd")))
        self.tell(hold(IF_A, DO_P), row(IF_A, DO_P), (("a", "gdd"), ("", "ddd")))
        self.tell(row(IF_A, hold(DO_P, DO_Q)), row(IF_A, DO_P, DO_Q), (("a", "dgd"), ("a", "ddd")))
        self.tell(no(hold(DO_P, hold(DO_Q, DO_R))), no(hold(DO_P, row(DO_Q, DO_R))), (("", "ddg"), ("", "ddd")))
        self.tell(hold(DO_P, DO_Q, DO_P), hold(DO_P, row(DO_Q, DO_P)), (("", "dgd"), ("", "gdd"), ("", "ddd")))

    def test_only_behind_four_ticks(self):
        one = hold(DO_P, DO_Q, DO_P, DO_Q)
        other = hold(DO_P, DO_Q, row(DO_P, DO_Q))
        told = (("", "dgd"), ("", "gdd"), ("", "dgd"), ("", "ddd"))
        self.tell(one, other, told)
        self.assertIsNone(told_parting(one, other, worlds_of(one, other), 3))
        self.assertEqual(told_parting(one, other, worlds_of(one, other), 4), told)

    def test_the_least_of_several_shortest(self):
        one, other = hold(DO_P, pick(IF_A, DO_Q)), row(DO_P, pick(IF_A, DO_Q))
        both = worlds_of(one, other)
        parted = [some for some in itertools.product(both, repeat=2) if told_run(one, some) != told_run(other, some)]
        self.assertGreater(len(parted), 10)
        self.tell(one, other, min(parted))
        one, other = pick(IF_A, IF_B, row(IF_C, DO_P)), pick(IF_A, IF_B, row(IF_C, DO_Q))
        self.tell(one, other, (("c", "ddd"),))
        one, other = row(pick(IF_B, IF_C), DO_P), row(pick(IF_B, IF_C), DO_Q)
        self.tell(one, other, (("b", "ddd"),))

    def test_rows_of_a_few_ticks_tried_one_by_one(self):
        small = trees_of(1) + trees_of(2) + trees_of(3)
        parted = {0: 0, 1: 0, 2: 0}
        for one, other in itertools.product(small, repeat=2):
            told = told_parting(one, other, worlds_of(one, other), 2)
            self.assertEqual(parting(one, other), told)
            self.assertIs(are_alike(one, other), told is None)
            parted[len(told or ())] += 1
        self.assertGreater(min(parted.values()), 5)

    def test_trees_of_two_deeds_in_rows_of_three(self):
        some = [tree for tree in trees_of(4, (DO_P, DO_Q)) if tree[0] == "hold"]
        some += [hold(DO_P, hold(DO_Q, DO_P)), hold(hold(DO_P, DO_Q), DO_P), hold(row(DO_P, DO_Q), DO_P), hold(DO_P, DO_Q),
                 hold(DO_P, row(DO_Q, DO_P)), row(hold(DO_P, DO_Q), DO_P)]
        parted = {0: 0, 1: 0, 2: 0, 3: 0}
        for one, other in itertools.combinations_with_replacement(some, 2):
            told = parting(one, other)
            parted[len(told or ())] += 1
            self.assertEqual(told, told_parting(one, other, worlds_of(one, other), len(told) if told else 2))
        self.assertGreater(min(parted.values()), 0)

    def test_the_row_parts_and_no_shorter_one_does(self):
        for one, other in itertools.combinations(TREES, 2):
            told = parting(one, other)
            self.assertIs(are_alike(one, other), told is None)
            if told is None:
                continue
            self.assertIs(type(told), tuple)
            self.assertNotEqual(run(one, told), run(other, told))
            self.assertEqual(run(one, told[:-1]), run(other, told[:-1]))
            self.assertLessEqual(set(told), set(worlds_of(one, other)))
            self.assertEqual(told, told_parting(one, other, worlds_of(one, other), min(len(told), 2)))

    def test_a_tree_and_itself_its_plain_one_and_its_lean_one(self):
        for tree in trees_of(4) + list(TREES) + [hold(ALWAYS, DO_P), row(NOWHERE, DO_P), wide(25), nots(8, DO_P)]:
            self.tell(tree, tree, None)
            self.tell(tree, plain(tree), None)
            self.tell(tree, lean(tree), None)

    def test_other_trees_that_are_alike(self):
        self.tell(no(pick(IF_A, IF_B)), row(no(IF_A), no(IF_B)), None)
        self.tell(row(IF_A, IF_B), row(IF_B, IF_A), None)
        self.tell(hold(IF_A, IF_B), row(IF_A, IF_B), None)
        self.tell(hold(DO_P, IF_A), row(DO_P, IF_A), None)
        self.tell(row(IF_A, no(IF_A)), row(IF_B, no(IF_B)), None)
        self.tell(hold(hold(DO_P, DO_Q), DO_R), hold(DO_P, DO_Q, DO_R), None)
        self.tell(hold(DO_P, hold(DO_Q, DO_R)), hold(DO_P, DO_Q, DO_R), None)

    def test_the_same_again(self):
        for one, other in itertools.combinations(TREES[-6:], 2):
            self.assertEqual(parting(one, other), parting(one, other))

    def test_the_greatest_trees(self):
        one = hold(*[("do", "pqr"[number % 3]) for number in range(19)])
        other = hold(*one[1][:-1] + (no(one[1][-1]),))
        self.tell(one, one, None)
        self.tell(one, other, (("", "ddd"),))
        three = hold(DO_P, DO_Q, DO_R)
        one = row(three, no(three), IF_A, IF_B, IF_C, pick(three, DO_R))
        self.tell(one, row(three, no(three)), told_parting(one, row(three, no(three)), ALL_WORLDS, 2))
        self.tell(one, row(three, no(three)), (("", "ddg"), ("", "dfd")))


class Stands(unittest.TestCase):
    def test_no_places(self):
        for tree in LEAVES + (no(DO_P), row(DO_P, DO_Q), pick(IF_A, no(DO_P)), hold(DO_P, IF_A), hold(IF_A, IF_B),
                              hold(NOWHERE, DO_P), row(NOWHERE, hold(DO_P, DO_Q))):
            self.assertEqual(stands(tree), ((),))

    def test_one_hold(self):
        self.assertEqual(stands(hold(DO_P, DO_Q)), ((), (((), 1),)))
        self.assertEqual(stands(hold(IF_A, DO_P, IF_B, DO_Q)), ((), (((), 1),), (((), 3),)))
        self.assertEqual(stands(row(IF_A, no(hold(IF_B, DO_P)))), ((), (((1, 0), 1),)))

    def test_holds_beside_holds(self):
        self.assertEqual(stands(pick(hold(DO_P, DO_Q), hold(DO_Q, DO_R))), ((), (((0,), 1),), (((1,), 1),)))

    def test_holds_in_holds(self):
        self.assertEqual(stands(hold(DO_P, hold(DO_Q, DO_R), IF_A)), ((), (((), 1),), (((), 1), ((1,), 1))))
        self.assertEqual(stands(hold(hold(DO_P, DO_Q), DO_R)), ((), (((), 1),), (((0,), 1),)))
        self.assertEqual(stands(hold(IF_A, hold(IF_A, hold(IF_A, DO_P), DO_Q), DO_R)), (
            (), (((), 1), ((1,), 1), ((1, 1), 1)), (((), 1), ((1,), 2)), (((), 2),)))

    def test_a_stand_that_comes_only_behind_another(self):
        self.assertEqual(stands(hold(DO_P, DO_Q, DO_P)), ((), (((), 1),), (((), 2),)))
        self.assertEqual(stands(row(DO_P, hold(DO_Q, DO_P))), ((), ))
        self.assertEqual(stands(hold(IF_A, DO_P, no(IF_A), DO_Q)), ((), (((), 1),), (((), 3),)))

    def test_rising_where_numbers_have_two_digits(self):
        self.assertEqual(stands(hold(*(DO_P, IF_A, DO_Q) * 4)),
                         ((),) + tuple((((), number),) for number in (2, 3, 5, 6, 8, 9, 11)))

    def test_all_small_trees(self):
        for tree in trees_of(4) + list(TREES):
            told = stands(tree)
            self.assertEqual(set(told), told_reached(tree, worlds_of(tree))[0])
            self.assertTrue(is_rising(told))
            self.assertIs(type(told), tuple)
            self.assertEqual(stands(tree), told)


class Results(unittest.TestCase):
    def test_each_kind(self):
        for tree, told in ((IF_A, "df"), (DO_P, "dfg"), (no(IF_A), "df"), (no(DO_P), "dfg"), (row(IF_A, DO_P), "dfg"),
                           (pick(IF_A, DO_P), "dfg"), (hold(IF_A, IF_B), "df"), (hold(DO_P, DO_Q), "dfg"),
                           (ALWAYS, "d"), (NOWHERE, "f"), (NOT_DONE, "fg"), (NOT_FAILED, "dg"), (no(NOT_DONE), "dg"),
                           (no(ALWAYS), "f"), (row(ALWAYS, DO_P), "dfg"), (pick(ALWAYS, DO_P), "d")):
            self.assertEqual(results(tree), told, tree)

    def test_one_that_comes_only_behind_a_place_held(self):
        self.assertEqual(results(row(IF_A, DO_P, no(IF_A))), "fg")
        self.assertEqual(results(hold(IF_A, DO_P, no(IF_A))), "dfg")

    def test_all_small_trees(self):
        for tree in trees_of(4) + list(TREES):
            self.assertEqual(results(tree), "".join(sorted(told_reached(tree, worlds_of(tree))[1])))
            self.assertEqual(results(tree), results(tree))


class Never(unittest.TestCase):
    def tell(self, tree, told, left):
        self.assertEqual(never(tree), told)
        self.assertEqual(lean(tree), left)
        self.assertTrue(is_tree(left))
        self.assertEqual((never(left), lean(left)), ((), left))
        self.assertTrue(are_alike(tree, left))

    def test_none(self):
        for tree in LEAVES + (no(IF_A), row(IF_A, DO_P), pick(IF_A, DO_P), hold(IF_A, DO_P), ALWAYS, NOWHERE, NOT_DONE,
                              NOT_FAILED, row(ALWAYS, DO_P), pick(NOWHERE, DO_P), row(IF_A, row(IF_B, no(DO_P))),
                              no(no(IF_A)), row(row(IF_A, IF_B), IF_C)):
            self.tell(tree, (), tree)

    def test_behind_a_part_of_which_f_always_comes(self):
        self.tell(row(NOWHERE, DO_P), ((1,),), NOWHERE)
        self.tell(hold(NOWHERE, DO_P), ((1,),), NOWHERE)
        self.tell(row(IF_B, NOWHERE, DO_P), ((2,),), row(IF_B, NOWHERE))
        self.tell(hold(DO_Q, NOWHERE, DO_P, DO_R), ((2,), (3,)), hold(DO_Q, NOWHERE))

    def test_behind_a_part_of_which_d_always_comes(self):
        self.tell(pick(ALWAYS, DO_P), ((1,),), ALWAYS)
        self.tell(pick(IF_B, ALWAYS, DO_P, DO_Q), ((2,), (3,)), pick(IF_B, ALWAYS))

    def test_behind_a_part_of_which_only_g_and_what_ends_it_come(self):
        self.tell(row(NOT_DONE, DO_Q), ((1,),), NOT_DONE)
        self.tell(hold(IF_A, NOT_DONE, DO_Q), ((2,),), hold(IF_A, NOT_DONE))
        self.tell(pick(NOT_FAILED, DO_Q), ((1,),), NOT_FAILED)
        self.tell(row(NOT_FAILED, DO_Q), (), row(NOT_FAILED, DO_Q))

    def test_by_what_was_asked_or_done_in_the_same_tick(self):
        self.tell(row(IF_A, pick(IF_A, DO_P)), ((1, 1),), row(IF_A, IF_A))
        self.tell(pick(IF_A, row(IF_A, DO_P)), ((1, 1),), pick(IF_A, IF_A))
        self.tell(row(DO_P, pick(DO_P, DO_Q)), ((1, 1),), row(DO_P, DO_P))
        self.tell(row(IF_A, DO_P, no(IF_A), DO_Q), ((3,),), row(IF_A, DO_P, no(IF_A)))

    def test_but_not_where_it_may_be_otherwise_behind_a_place_held(self):
        tree = hold(IF_A, DO_P, no(IF_A), DO_Q)
        self.tell(tree, (), tree)
        tree = hold(IF_A, pick(DO_P, IF_B), pick(IF_A, DO_Q))
        self.tell(tree, (), tree)

    def test_none_within_such(self):
        self.tell(row(NOWHERE, row(DO_P, no(DO_Q))), ((1,),), NOWHERE)
        self.tell(pick(ALWAYS, hold(DO_P, row(NOWHERE, DO_Q)), no(no(IF_B))), ((1,), (2,)), ALWAYS)
        self.tell(pick(row(NOWHERE, no(DO_P)), DO_Q), ((0, 1),), pick(NOWHERE, DO_Q))

    def test_parts_within_parts(self):
        self.tell(no(row(NOWHERE, DO_P)), ((0, 1),), no(NOWHERE))
        self.tell(row(row(NOWHERE, DO_P), DO_Q), ((0, 1), (1,)), NOWHERE)
        self.tell(hold(IF_B, pick(row(IF_C, pick(ALWAYS, DO_R)), DO_P)), ((1, 0, 1, 1),),
                  hold(IF_B, pick(row(IF_C, ALWAYS), DO_P)))
        self.tell(pick(row(NOWHERE, DO_P), row(IF_B, pick(ALWAYS, DO_Q)), hold(ALWAYS, NOWHERE, DO_R)),
                  ((0, 1), (1, 1, 1), (2, 2)), pick(NOWHERE, row(IF_B, ALWAYS), hold(ALWAYS, NOWHERE)))
        self.tell(row(pick(no(row(NOWHERE, DO_P)), DO_Q), hold(NOWHERE, no(DO_R)), IF_C), ((0, 0, 0, 1), (0, 1), (1, 1), (2,)),
                  row(no(NOWHERE), NOWHERE))

    def test_what_is_left_is_not_made_plain(self):
        self.tell(row(IF_B, row(pick(ALWAYS, DO_P), no(no(IF_C)))), ((1, 0, 1),), row(IF_B, row(ALWAYS, no(no(IF_C)))))
        self.tell(row(pick(row(DO_Q, ALWAYS), no(DO_Q), DO_P), IF_B), ((0, 2),),
                  row(pick(row(DO_Q, ALWAYS), no(DO_Q)), IF_B))
        self.tell(row(IF_B, pick(row(IF_B, ALWAYS), DO_P), DO_Q), ((1, 1),), row(IF_B, row(IF_B, ALWAYS), DO_Q))
        self.tell(no(row(no(ALWAYS), DO_P)), ((0, 1),), no(no(ALWAYS)))

    def test_all_small_trees(self):
        asked = {True: 0, False: 0}
        for tree in trees_of(4) + trees_of(5, (IF_A, DO_P)) + list(TREES):
            come = told_reached(tree, worlds_of(tree))[2]
            told = never(tree)
            asked[not told] += 1
            self.assertIs(type(told), tuple)
            self.assertTrue(is_rising(told))
            missed = [way for way in ways(tree) if way not in come]
            self.assertEqual(list(told), [way for way in missed if way[:-1] in come])
            left = lean(tree)
            self.assertTrue(is_tree(left))
            self.assertTrue(are_alike(tree, left))
            self.assertEqual(set(ways(left)), told_reached(left, worlds_of(left))[2])
            self.assertEqual(left == tree, not told)
            self.assertLessEqual(size(left), size(tree) - len(missed))
            self.assertEqual((never(tree), lean(tree)), (told, left))
        self.assertGreater(min(asked.values()), 20)


if __name__ == "__main__":
    unittest.main()
