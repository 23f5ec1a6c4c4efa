import itertools
import unittest

from tests.samples import (ALL_WORLDS, DO_P, DO_Q, DO_R, IF_A, IF_B, LEAVES, TREES, hold, is_rising, mixed, no, nots,
                           pick, row, told_run, told_tick, told_ways, trees_of, wide)
from ticktrees.judging import clash, counts, faults, first_fault, fits
from ticktrees.ticking import run, worlds

PQ = hold(DO_P, DO_Q)


def own_rows(tree):
    """Rows that the tree tells, one of them of no ticks."""
    return (told_run(tree, mixed(ALL_WORLDS, 9)), (), told_run(tree, mixed(ALL_WORLDS[7:], 6)),
            told_run(tree, mixed(ALL_WORLDS[11:], 1)))


def other_deeds(tick):
    return (tick[0], tick[1] + "p", tick[2])


def other_result(tick):
    return (tick[0], tick[1], "g" if tick[2] == "d" else "d")


def with_one(some, number, new):
    """The tuple with a new one in the place of this number."""
    return some[:number] + (new,) + some[number + 1:]


def spoil(rows, number, tick, how):
    """The rows, one of them spoilt at a tick."""
    told = rows[number]
    return with_one(rows, number, with_one(told, tick, how(told[tick])))


class Faults(unittest.TestCase):
    def tell(self, tree, rows, first, many):
        for again in range(2):
            self.assertIs(fits(tree, rows), first is None)
            self.assertEqual(first_fault(tree, rows), first)
            self.assertEqual(faults(tree, rows), many)

    def test_no_rows_and_rows_of_no_ticks(self):
        for tree in TREES:
            self.tell(tree, (), None, 0)
            self.tell(tree, ((),), None, 0)
            self.tell(tree, ((), (), ()), None, 0)

    def test_rows_of_the_tree_itself(self):
        for tree in TREES + (wide(25), nots(8, DO_P)):
            self.tell(tree, own_rows(tree), None, 0)
            self.tell(tree, own_rows(tree) * 2, None, 0)

    def test_one_row_spoilt_at_one_tick(self):
        for tree in TREES:
            rows = own_rows(tree)
            for number, told in enumerate(rows):
                for tick in range(len(told)):
                    for how in (other_deeds, other_result):
                        self.tell(tree, spoil(rows, number, tick, how), (number, tick), 1)

    def test_deeds_spoilt_in_each_way(self):
        told = run(PQ, (("", "dgd"), ("", "ddd")))
        for deeds in ("", "p", "q", "qp", "pqq", "ppq", "pqr", "PQ", "pq ", " pq"):
            self.tell(PQ, (told, with_one(told, 0, (("", "dgd"), deeds, "g"))), (1, 0), 1)
        for result in ("d", "f"):
            self.tell(PQ, (told, with_one(told, 0, (("", "dgd"), "pq", result))), (1, 0), 1)

    def test_several_rows_spoilt_at_several_ticks(self):
        for tree in TREES:
            rows = own_rows(tree)
            rows = spoil(spoil(rows, 2, 5, other_deeds), 2, 3, other_result)
            self.tell(tree, rows, (2, 3), 1)
            self.tell(tree, spoil(rows, 3, 0, other_result), (2, 3), 2)
            rows = spoil(rows, 0, 8, other_deeds)
            self.tell(tree, rows, (0, 8), 2)
            rows = spoil(rows, 3, 0, other_deeds)
            self.tell(tree, rows, (0, 8), 3)
            self.tell(tree, rows[::-1], (0, 0), 3)
            self.tell(tree, rows + rows, (0, 8), 6)

    def test_places_are_held_within_a_row_but_not_from_row_to_row(self):
        going, on = (("", "dgd"), "pq", "g"), (("", "ddd"), "q", "d")
        anew = (("", "ddd"), "pq", "d")
        self.tell(PQ, ((going, on),), None, 0)
        self.tell(PQ, ((going, anew),), (0, 1), 1)
        self.tell(PQ, ((going,), (anew,)), None, 0)
        self.tell(PQ, ((going,), (on,)), (1, 0), 1)
        self.tell(row(DO_P, DO_Q), ((going,), (going, on)), (1, 1), 1)
        self.tell(row(DO_P, DO_Q), ((going, anew),), None, 0)

    def test_the_tree_goes_on_behind_a_fault_by_its_own_places(self):
        rows = (((("", "dgd"), "pq", "d"), (("", "ddd"), "q", "d")), ((("", "ddd"), "q", "d"),))
        self.tell(PQ, rows, (0, 0), 2)

    def test_kinds(self):
        rows = own_rows(PQ)
        self.assertIs(type(faults(PQ, rows)), int)
        first = first_fault(PQ, spoil(rows, 2, 1, other_deeds))
        self.assertIs(type(first), tuple)
        self.assertEqual([type(one) for one in first], [int, int])

    def test_a_tree_fits_just_if_it_has_no_fault(self):
        rows = tuple(told_run(tree, mixed(worlds("a", "pq"), 4)) for tree in TREES)
        for tree in trees_of(3) + trees_of(2) + list(TREES):
            wrong = [number for number, told in enumerate(rows)
                     if told_run(tree, [tick[0] for tick in told]) != told]
            self.assertEqual(faults(tree, rows), len(wrong))
            self.assertIs(fits(tree, rows), not wrong)
            first = first_fault(tree, rows)
            self.assertEqual(first is None, not wrong)
            if wrong:
                number, tick = first
                mine = told_run(tree, [one[0] for one in rows[number]])
                self.assertEqual(number, wrong[0])
                self.assertEqual(mine[:tick], rows[number][:tick])
                self.assertNotEqual(mine[tick], rows[number][tick])


class Counts(unittest.TestCase):
    def test_no_worlds(self):
        for tree in TREES:
            self.assertEqual(counts(tree, ()), ())

    def test_leaves(self):
        for leaf in LEAVES:
            self.assertEqual(counts(leaf, (("a", "dfg"),)), (((), 1),))
            self.assertEqual(counts(leaf, ALL_WORLDS), (((), 216),))

    def test_not(self):
        self.assertEqual(counts(no(DO_P), (("", "ddd"), ("", "fdd"), ("", "gdd"))), (((), 3), ((0,), 3)))

    def test_row_and_pick(self):
        some = (("", "ddd"), ("a", "ddd"), ("a", "fdd"), ("a", "gdd"), ("", "fff"))
        self.assertEqual(counts(row(IF_A, DO_P, DO_Q), some), (((), 5), ((0,), 5), ((1,), 3), ((2,), 1)))
        self.assertEqual(counts(pick(IF_A, DO_P, DO_Q), some), (((), 5), ((0,), 5), ((1,), 2), ((2,), 1)))

    def test_ways_to_which_none_comes_are_left_out(self):
        self.assertEqual(counts(row(IF_A, row(DO_P, DO_Q)), (("", "ddd"),)), (((), 1), ((0,), 1)))
        self.assertEqual(counts(pick(IF_A, no(DO_P)), (("a", "ddd"),)), (((), 1), ((0,), 1)))

    def test_holds_that_begin_with_a_later_part(self):
        tree = hold(DO_P, DO_Q, DO_R)
        some = (("", "dgd"), ("", "ddg"), ("", "ddd"))
        self.assertEqual(counts(tree, some[:1]), (((), 1), ((0,), 1), ((1,), 1)))
        self.assertEqual(counts(tree, some[:2]), (((), 2), ((0,), 1), ((1,), 2), ((2,), 1)))
        self.assertEqual(counts(tree, some), (((), 3), ((0,), 1), ((1,), 2), ((2,), 2)))
        self.assertEqual(counts(tree, some + some), (((), 6), ((0,), 2), ((1,), 4), ((2,), 4)))
        self.assertEqual(counts(row(IF_A, tree), (("a", "dgd"), ("", "ddd"), ("a", "gdd"))),
                         (((), 3), ((0,), 3), ((1,), 2), ((1, 0), 2), ((1, 1), 1)))

    def test_rising_where_numbers_have_two_digits(self):
        tree = row(*(IF_A,) * 11 + (pick(IF_B, DO_P),))
        self.assertEqual(counts(tree, (("a", "ddd"), ("", "ddd"))), (
            ((), 2), ((0,), 2)) + tuple(((number,), 1) for number in range(1, 12)) + (((11, 0), 1), ((11, 1), 1)))

    def test_all_small_trees(self):
        for tree in trees_of(4) + list(TREES):
            for some in (mixed(ALL_WORLDS, 25), mixed(worlds("a", "pq"), 15)):
                stand, many = None, {}
                for world in some:
                    for way in told_ways(tree, stand, world):
                        many[way] = many.get(way, 0) + 1
                    stand = told_tick(tree, stand, world)[2]
                told = counts(tree, some)
                self.assertEqual(dict(told), many)
                self.assertTrue(is_rising([way for way, number in told]))
                self.assertEqual(counts(tree, some), told)
                self.assertIs(type(told), tuple)
                self.assertEqual({type(pair) for pair in told}, {tuple})


def told_clash(rows):
    """The clash as the document tells it: of all pairs and ticks at which they clash, the least other, then one."""
    found = []
    for one, other in itertools.combinations(range(len(rows)), 2):
        for tick in range(min(len(rows[one]), len(rows[other]))):
            here, there = rows[one][:tick + 1], rows[other][:tick + 1]
            if ([told[0] for told in here] == [told[0] for told in there] and here[:-1] == there[:-1]
                    and here[-1] != there[-1]):
                found.append((other, one, tick))
    return (min(found)[1], min(found)[0], min(found)[2]) if found else None


class Clash(unittest.TestCase):
    W, V, U = ("", "ddd"), ("a", "ddd"), ("b", "ddd")

    def test_no_rows_one_row_and_rows_of_no_ticks(self):
        for rows in ((), ((),), ((), ()), (((self.W, "p", "d"),),), ((), ((self.W, "p", "d"),), ())):
            self.assertIsNone(clash(rows))

    def test_rows_of_one_tree(self):
        for tree in TREES:
            self.assertIsNone(clash(own_rows(tree) + own_rows(tree)))
            for many in range(5):
                self.assertIsNone(clash((told_run(tree, ALL_WORLDS[:9]), told_run(tree, ALL_WORLDS[:many]))))

    def test_rows_that_tell_otherwise_at_a_tick(self):
        told = run(PQ, (("", "dgd"), ("", "dgd"), ("a", "ddd"), ("", "fdd")))
        for tick in range(4):
            for how in (other_deeds, other_result):
                spoilt = with_one(told, tick, how(told[tick]))
                self.assertEqual(clash((told, spoilt)), (0, 1, tick))
                self.assertEqual(clash((spoilt, told)), (0, 1, tick))
                self.assertEqual(clash((spoilt, spoilt)), None)
                for later in range(tick, 4):
                    twice = with_one(spoilt, later, other_deeds(spoilt[later]))
                    self.assertEqual(clash((told, twice)), (0, 1, tick))

    def test_worlds_that_are_not_alike_ahead_of_it_or_at_it(self):
        one = ((self.W, "p", "d"), (self.V, "p", "d"))
        self.assertIsNone(clash((one, ((self.V, "p", "d"), (self.V, "q", "d")))))
        self.assertIsNone(clash((one, ((self.W, "p", "d"), (self.W, "q", "d")))))
        self.assertIsNone(clash((one, ((self.W, "p", "d"), (self.U, "q", "f"), (self.V, "p", "f")))))
        self.assertIsNone(clash((one, ((self.V, "p", "f"), (self.V, "p", "f")))))

    def test_worlds_that_are_not_alike_behind_it(self):
        self.assertEqual(clash((((self.W, "p", "d"), (self.V, "p", "d")), ((self.W, "q", "d"), (self.U, "p", "d")))),
                         (0, 1, 0))

    def test_rows_one_of_which_goes_on_further(self):
        short, further = ((self.W, "p", "d"),), ((self.W, "p", "d"), (self.V, "q", "f"))
        self.assertIsNone(clash((short, further)))
        self.assertIsNone(clash((further, short)))
        other = ((self.W, "p", "f"), (self.V, "q", "f"))
        self.assertEqual(clash((short, other)), (0, 1, 0))
        self.assertEqual(clash((other, short)), (0, 1, 0))
        self.assertEqual(clash((short, further, (), other)), (0, 3, 0))

    def test_the_least_other_then_the_least_one(self):
        w, v = ((self.W, "p", "d"),), ((self.V, "p", "d"),)
        not_w, not_v = ((self.W, "p", "f"),), ((self.V, "q", "d"),)
        self.assertEqual(clash((w, v, not_v, not_w)), (1, 2, 0))
        self.assertEqual(clash((w, v, not_w, not_v)), (0, 2, 0))
        self.assertEqual(clash((w, w, not_w)), (0, 2, 0))
        self.assertEqual(clash((v, w, w, not_w, not_v)), (1, 3, 0))
        late = ((self.W, "p", "d"), (self.V, "", "f"), (self.V, "", "d"))
        later = late[:2] + ((self.V, "", "g"),)
        self.assertEqual(clash((late, later, not_w)), (0, 1, 2))
        self.assertEqual(clash((late, not_w, later)), (0, 1, 0))

    def test_rows_of_several_trees(self):
        asked = {True: 0, False: 0}
        for some in (TREES, trees_of(3), trees_of(2)):
            for step in range(1, 30):
                rows = tuple(told_run(some[number * step % len(some)], mixed(worlds("a", "pq")[number % 2:], number % 4))
                             for number in range(6))
                told = told_clash(rows)
                asked[told is None] += 1
                self.assertEqual(clash(rows), told)
                self.assertEqual(clash(rows), told)
        self.assertGreater(min(asked.values()), 5)

    def test_rows_that_clash_are_fitted_by_none(self):
        some = (("", "dgd"), ("a", "ddd"))
        for one, other in ((PQ, row(DO_P, DO_Q)), (IF_A, no(IF_A)), (DO_P, DO_Q), (PQ, hold(DO_P, no(DO_Q)))):
            rows = (told_run(one, some), told_run(other, some))
            self.assertIsNotNone(clash(rows))
            for tree in trees_of(1) + trees_of(2) + trees_of(3) + trees_of(4):
                self.assertIs(fits(tree, rows), False)


if __name__ == "__main__":
    unittest.main()
