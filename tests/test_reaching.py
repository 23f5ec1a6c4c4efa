import itertools
import unittest

from tests.samples import (ALL_WORLDS, DO_P, DO_Q, DO_R, IF_A, IF_B, IF_C, LEAVES, TREES, hold, is_rising, no, nots, pick,
                           row, told_held, told_reached, told_tick, told_ways, trees_of, wide)
from ticktrees.alike import never, results, stands
from ticktrees.errors import NoPart
from ticktrees.judging import counts
from ticktrees.reaching import all_deeds, row_to_deeds, row_to_part, row_to_result, row_to_stand
from ticktrees.ticking import Ticker, run, worlds
from ticktrees.trees import deeds_of, senses_of, ways

PQ = hold(DO_P, DO_Q)
# What stands behind p is come to in a second tick only, what stands behind q in a third.
STEPS = hold(IF_A, DO_P, no(IF_A), DO_Q, IF_A, DO_R)
ALWAYS = pick(IF_A, no(IF_A))


def told_rows(tree, most):
    """Each row of up to so many worlds, the shortest first, then the least, with what is so of its last tick."""
    some = worlds(senses_of(tree), deeds_of(tree))
    for many in range(1, most + 1):
        for tried in itertools.product(some, repeat=many):
            stand = None
            for world in tried[:-1]:
                stand = told_tick(tree, stand, world)[2]
            result, deeds, behind = told_tick(tree, stand, tried[-1])
            yield tried, told_ways(tree, stand, tried[-1]), result, deeds, told_held(behind)


def told_first(tree, most):
    """For each part, result, text of deeds and stand the first row that leads there."""
    first = {}
    for tried, come, result, deeds, held in told_rows(tree, most):
        for way in come:
            first.setdefault(("part", way), tried)
        first.setdefault(("result", result), tried)
        first.setdefault(("deeds", deeds), tried)
        first.setdefault(("stand", held), tried)
    first[("stand", ())] = ()
    return first


def all_told(tree):
    """For each part, result, text of deeds and stand that may be the row that is told."""
    told = {("part", way): row_to_part(tree, way) for way in ways(tree)}
    told.update({("result", sign): row_to_result(tree, sign) for sign in "dfg"})
    told.update({("deeds", deeds): row_to_deeds(tree, deeds) for deeds in all_deeds(tree)})
    told.update({("stand", held): row_to_stand(tree, held) for held in stands(tree)})
    return {what: found for what, found in told.items() if found is not None}


class RowToPart(unittest.TestCase):
    def test_itself(self):
        self.assertEqual(row_to_part(IF_A, ()), (("", "ddd"),))
        for tree in TREES:
            self.assertEqual(row_to_part(tree, ()), (("", "ddd"),))

    def test_in_one_tick(self):
        tree = row(IF_A, DO_P, pick(IF_B, DO_Q))
        self.assertEqual(row_to_part(tree, (0,)), (("", "ddd"),))
        self.assertEqual(row_to_part(tree, (1,)), (("a", "ddd"),))
        self.assertEqual(row_to_part(tree, (2,)), (("a", "ddd"),))
        self.assertEqual(row_to_part(tree, (2, 1)), (("a", "ddd"),))
        self.assertEqual(row_to_part(pick(IF_A, IF_B, DO_P), (2,)), (("", "ddd"),))
        self.assertEqual(row_to_part(pick(DO_P, DO_Q, DO_R), (2,)), (("", "ffd"),))
        self.assertEqual(row_to_part(row(no(IF_A), no(IF_B), no(DO_Q), DO_R), (3,)), (("", "dfd"),))
        self.assertEqual(row_to_part(row(pick(IF_C, DO_P), no(DO_P), IF_B), (2,)), (("bc", "fdd"),))

    def test_places_that_must_be_held_first(self):
        self.assertEqual(row_to_part(STEPS, (2,)), (("a", "ddd"),))
        self.assertEqual(row_to_part(STEPS, (3,)), (("a", "gdd"), ("", "ddd")))
        self.assertEqual(row_to_part(STEPS, (4,)), (("a", "gdd"), ("", "ddd")))
        self.assertEqual(row_to_part(STEPS, (5,)), (("a", "gdd"), ("", "dgd"), ("a", "ddd")))
        self.assertEqual(row_to_part(row(IF_B, STEPS), (1, 3)), (("ab", "gdd"), ("b", "ddd")))
        self.assertEqual(row_to_part(hold(IF_A, DO_P, no(IF_A), IF_B), (3,)), (("a", "gdd"), ("", "ddd")))

    def test_where_nothing_leads(self):
        self.assertIsNone(row_to_part(row(IF_A, no(IF_A), DO_P), (2,)))
        self.assertIsNone(row_to_part(pick(ALWAYS, no(DO_P)), (1,)))
        self.assertIsNone(row_to_part(pick(ALWAYS, no(DO_P)), (1, 0)))
        self.assertIsNone(row_to_part(row(DO_P, no(DO_P), DO_Q), (2,)))
        self.assertIsNone(row_to_part(hold(IF_A, no(IF_A), DO_P), (2,)))

    def test_ways_that_lead_to_no_part(self):
        for tree, some in ((IF_A, ((0,), (-1,), (0, 0))), (no(IF_A), ((1,), (0, 0), (-1,), (False,), (0, True))),
                           (PQ, ((2,), (0, 0), (-1,), (True,), (False,), (None,), ("0",), (99,)))):
            for way in some:
                for again in range(2):
                    with self.subTest((tree, way)), self.assertRaises(NoPart):
                        row_to_part(tree, way)
        # Refused also within a part to which no tick comes.
        with self.assertRaises(NoPart):
            row_to_part(pick(ALWAYS, no(DO_P)), (1, 1))

    def test_never_tells_just_the_parts_to_which_nothing_leads(self):
        for tree in trees_of(4) + list(TREES) + [STEPS, row(IF_A, no(IF_A), pick(DO_P, IF_B)), row(pick(ALWAYS, DO_P), DO_Q)]:
            missed = never(tree)
            for way in ways(tree):
                within = any(way[:len(other)] == other for other in missed)
                self.assertIs(row_to_part(tree, way) is None, within)


class RowToResult(unittest.TestCase):
    def test_leaves(self):
        self.assertEqual(row_to_result(IF_A, "d"), (("a", "ddd"),))
        self.assertEqual(row_to_result(IF_A, "f"), (("", "ddd"),))
        self.assertIsNone(row_to_result(IF_A, "g"))
        for number, leaf in enumerate((DO_P, DO_Q, DO_R)):
            for sign in "dfg":
                self.assertEqual(row_to_result(leaf, sign), (("", "d" * number + sign + "d" * (2 - number)),))

    def test_not_row_and_pick(self):
        self.assertEqual(row_to_result(no(IF_A), "d"), (("", "ddd"),))
        self.assertEqual(row_to_result(no(DO_P), "d"), (("", "fdd"),))
        self.assertEqual(row_to_result(no(DO_P), "g"), (("", "gdd"),))
        self.assertEqual(row_to_result(row(IF_A, DO_P), "d"), (("a", "ddd"),))
        self.assertEqual(row_to_result(row(IF_A, DO_P), "g"), (("a", "gdd"),))
        self.assertEqual(row_to_result(pick(IF_A, DO_P), "f"), (("", "fdd"),))
        self.assertEqual(row_to_result(row(DO_P, DO_Q), "g"), (("", "dgd"),))

    def test_places_that_must_be_held_first(self):
        tree = hold(IF_A, DO_P, no(IF_A))
        self.assertEqual(row_to_result(tree, "d"), (("a", "gdd"), ("", "ddd")))
        self.assertEqual(row_to_result(STEPS, "d"), (("a", "gdd"), ("", "dgd"), ("a", "ddd")))
        self.assertEqual(row_to_result(no(STEPS), "f"), (("a", "gdd"), ("", "dgd"), ("a", "ddd")))

    def test_where_nothing_leads(self):
        self.assertIsNone(row_to_result(ALWAYS, "f"))
        self.assertIsNone(row_to_result(no(ALWAYS), "d"))
        self.assertIsNone(row_to_result(row(IF_A, no(IF_A), DO_P), "d"))
        self.assertIsNone(row_to_result(row(IF_A, no(IF_A), DO_P), "g"))

    def test_just_the_results_that_may_come(self):
        for tree in trees_of(4) + list(TREES):
            self.assertEqual("".join(sign for sign in "dfg" if row_to_result(tree, sign) is not None), results(tree))


class RowToDeeds(unittest.TestCase):
    def test_in_one_tick(self):
        self.assertEqual(row_to_deeds(DO_P, "p"), (("", "ddd"),))
        self.assertEqual(row_to_deeds(IF_B, ""), (("", "ddd"),))
        self.assertEqual(row_to_deeds(row(IF_A, DO_P), ""), (("", "ddd"),))
        self.assertEqual(row_to_deeds(row(IF_A, DO_P), "p"), (("a", "ddd"),))
        self.assertEqual(row_to_deeds(pick(DO_P, DO_Q, DO_P), "pqp"), (("", "ffd"),))
        self.assertEqual(row_to_deeds(PQ, "p"), (("", "fdd"),))
        self.assertEqual(row_to_deeds(PQ, "pq"), (("", "ddd"),))

    def test_places_that_must_be_held_first(self):
        self.assertEqual(row_to_deeds(PQ, "q"), (("", "dgd"), ("", "ddd")))
        self.assertEqual(row_to_deeds(hold(DO_P, DO_Q, DO_R), "r"), (("", "ddg"), ("", "ddd")))
        self.assertEqual(row_to_deeds(hold(DO_P, DO_Q, DO_R), "q"), (("", "dgd"), ("", "dfd")))
        self.assertEqual(row_to_deeds(STEPS, "pq"), (("a", "gdd"), ("", "ddd")))
        self.assertEqual(row_to_deeds(STEPS, "qr"), (("a", "gdd"), ("", "dgd"), ("a", "ddd")))

    def test_where_nothing_leads(self):
        for deeds in ("", "pp", "q", "r", "P", "p ", "pq", "qp"):
            self.assertIsNone(row_to_deeds(DO_P, deeds))
        for deeds in ("", "qp", "pp", "qq", "r", "pqr"):
            self.assertIsNone(row_to_deeds(PQ, deeds))
        self.assertIsNone(row_to_deeds(row(IF_A, no(IF_A), DO_P), "p"))


class RowToStand(unittest.TestCase):
    def test_nothing_held(self):
        for tree in TREES + (STEPS, wide(20)):
            self.assertEqual(row_to_stand(tree, ()), ())

    def test_places(self):
        self.assertEqual(row_to_stand(PQ, (((), 1),)), (("", "dgd"),))
        self.assertEqual(row_to_stand(hold(DO_P, DO_Q, DO_R), (((), 1),)), (("", "dgd"),))
        self.assertEqual(row_to_stand(hold(DO_P, DO_Q, DO_R), (((), 2),)), (("", "ddg"),))
        self.assertEqual(row_to_stand(row(IF_A, no(PQ)), (((1, 0), 1),)), (("a", "dgd"),))
        nesting = hold(DO_P, hold(DO_Q, DO_R), IF_A)
        self.assertEqual(row_to_stand(nesting, (((), 1),)), (("", "dgd"),))
        self.assertEqual(row_to_stand(nesting, (((), 1), ((1,), 1))), (("", "ddg"),))
        self.assertEqual(row_to_stand(hold(hold(DO_P, DO_Q), DO_R), (((0,), 1),)), (("", "dgd"),))

    def test_places_that_must_be_held_first(self):
        self.assertEqual(row_to_stand(STEPS, (((), 1),)), (("a", "gdd"),))
        self.assertEqual(row_to_stand(STEPS, (((), 3),)), (("a", "gdd"), ("", "dgd")))
        self.assertEqual(row_to_stand(STEPS, (((), 5),)), (("a", "gdd"), ("", "dgd"), ("a", "ddg")))

    def test_where_nothing_leads(self):
        for held in ((((), 0),), (((), 2),), (((0,), 1),), (((), 1), ((), 1)), (((), 1), ((1,), 1)), (((), -1),)):
            self.assertIsNone(row_to_stand(PQ, held))
        self.assertIsNone(row_to_stand(hold(DO_P, hold(DO_Q, DO_R)), (((1,), 1), ((), 1))))
        self.assertIsNone(row_to_stand(hold(DO_P, hold(DO_Q, DO_R)), (((1,), 1),)))
        self.assertIsNone(row_to_stand(row(DO_P, DO_Q), (((), 1),)))
        self.assertIsNone(row_to_stand(hold(IF_A, IF_B), (((), 1),)))

    def test_truths_are_no_numbers(self):
        self.assertIsNone(row_to_stand(PQ, (((), True),)))
        self.assertIsNone(row_to_stand(hold(hold(DO_P, DO_Q), DO_R), (((False,), 1),)))
        self.assertEqual(row_to_stand(PQ, (((), 1),)), (("", "dgd"),))


class AllDeeds(unittest.TestCase):
    def test_leaves(self):
        for leaf in LEAVES:
            self.assertEqual(all_deeds(leaf), (leaf[1] if leaf[0] == "do" else "",))

    def test_rising_in_any_stand(self):
        self.assertEqual(all_deeds(row(DO_P, DO_Q)), ("p", "pq"))
        self.assertEqual(all_deeds(PQ), ("p", "pq", "q"))
        self.assertEqual(all_deeds(hold(DO_R, DO_Q, DO_P)), ("p", "q", "qp", "r", "rq", "rqp"))
        self.assertEqual(all_deeds(row(IF_A, DO_P)), ("", "p"))
        self.assertEqual(all_deeds(pick(DO_P, DO_P)), ("p", "pp"))
        self.assertEqual(all_deeds(STEPS), ("", "p", "pq", "q", "qr", "r"))
        self.assertEqual(all_deeds(row(IF_A, no(IF_A), DO_P)), ("",))
        self.assertEqual(all_deeds(pick(row(IF_A, DO_P), row(no(IF_A), DO_Q))), ("p", "q"))

    def test_all_small_trees(self):
        for tree in trees_of(4) + list(TREES) + [STEPS]:
            found = all_deeds(tree)
            self.assertIs(type(found), tuple)
            self.assertTrue(is_rising(found))
            self.assertEqual(all_deeds(tree), found)
            for deeds in found:
                self.assertEqual(run(tree, row_to_deeds(tree, deeds))[-1][1], deeds)


class Reached(unittest.TestCase):
    def test_the_shortest_row_of_these_the_least(self):
        for tree in trees_of(3) + trees_of(4) + [hold(IF_A, DO_P, no(IF_A)), no(hold(DO_P, pick(IF_A, DO_Q)))]:
            told = all_told(tree)
            first = told_first(tree, 2)
            self.assertEqual({what: found for what, found in told.items() if len(found) <= 2}, first)
            for what in told:
                self.assertTrue(what in first or len(told[what]) > 2)

    def test_three_ticks(self):
        for tree in (hold(IF_A, DO_P, no(IF_A), DO_Q, IF_A), no(hold(hold(IF_A, DO_P), no(IF_A), DO_Q, IF_A)),
                     hold(IF_A, DO_P, hold(no(IF_A), DO_Q, IF_A))):
            told = all_told(tree)
            self.assertEqual(told, told_first(tree, 3))
            self.assertEqual(max(len(found) for found in told.values()), 3)

    def test_what_leads_somewhere_comes_there(self):
        for tree in TREES + (STEPS, row(IF_B, STEPS, IF_C), nots(5, DO_P)):
            for (kind, what), found in all_told(tree).items():
                self.assertIs(type(found), tuple)
                self.assertLessEqual(set(found), set(worlds(senses_of(tree), deeds_of(tree))))
                ticker = Ticker(tree)
                for world in found:
                    ticker.tick(world)
                ticks = ticker.told()
                if kind == "part":
                    ahead = dict(counts(tree, found[:-1])).get(what, 0)
                    self.assertEqual((ahead, dict(counts(tree, found))[what]), (0, 1))
                elif kind == "result":
                    self.assertEqual([tick[2] == what for tick in ticks], [False] * (len(ticks) - 1) + [True])
                elif kind == "deeds":
                    self.assertEqual([tick[1] == what for tick in ticks], [False] * (len(ticks) - 1) + [True])
                else:
                    self.assertEqual(ticker.held(), what)

    def test_what_is_never_reached_is_led_to_by_nothing(self):
        for tree in TREES + (STEPS, row(IF_A, no(IF_A), pick(DO_P, IF_B)), row(pick(ALWAYS, DO_P), DO_Q)):
            held, coming, come = told_reached(tree, ALL_WORLDS[::5] + worlds(senses_of(tree), deeds_of(tree)))
            told = all_told(tree)
            self.assertEqual({what for kind, what in told if kind == "stand"}, held)
            self.assertEqual({what for kind, what in told if kind == "result"}, coming)
            self.assertEqual({what for kind, what in told if kind == "part"}, come)

    def test_asked_again_the_same_is_told(self):
        for tree in TREES:
            self.assertEqual(all_told(tree), all_told(tree))

    def test_somewhat_beyond_the_limits(self):
        self.assertEqual(row_to_part(wide(23), (21,)), (("a", "ddd"),))
        self.assertEqual(row_to_result(nots(8, IF_A), "f"), (("", "ddd"),))
        self.assertEqual(all_deeds(nots(8, DO_P)), ("p",))


if __name__ == "__main__":
    unittest.main()
