"""What the document promises over the whole, (a) to (j), of greater trees that are mixed, always the same ones."""

import random
import unittest

from tests.samples import ALL_WORLDS, LEAVES, TREES, hold, is_rising, no, pick, row, told_run, told_tick, told_tree
from ticktrees.alike import are_alike, lean, never, parting, results, stands
from ticktrees.askers import Asker
from ticktrees.asking import best_ask, greatest, groups, settled
from ticktrees.errors import NoTree
from ticktrees.judging import clash, counts, faults, first_fault, fits
from ticktrees.making import all_trees, least
from ticktrees.mending import apart, changes, mended
from ticktrees.reaching import all_deeds, row_to_deeds, row_to_part, row_to_result, row_to_stand
from ticktrees.texts import read_row, read_tree, row_text, tree_text
from ticktrees.ticking import Ticker, run, worlds
from ticktrees.trees import deeds_of, plain, senses_of, size, ways


def mixed_tree(dice, levels):
    """A tree on up to so many levels."""
    if levels == 1 or dice.random() < 0.2:
        return dice.choice(LEAVES)
    kind = dice.choice((no, row, pick, hold, hold))
    many = 1 if kind == no else dice.choice((2, 2, 2, 3))
    return kind(*[mixed_tree(dice, levels - 1) for number in range(many)])


def mixed_trees(seed, many):
    """So many trees of some parts, of up to 20."""
    dice = random.Random(seed)
    found = []
    while len(found) < many:
        tree = mixed_tree(dice, 6)
        if size(tree) > 4 and told_tree(tree):
            found.append(tree)
    return found


def mixed_row(dice, many):
    return tuple(dice.choice(ALL_WORLDS) for number in range(many))


class Whole(unittest.TestCase):
    def setUp(self):
        self.dice = random.Random(7)

    def test_a_tick_by_tick_as_all_at_once(self):
        for tree in mixed_trees(1, 100):
            some = mixed_row(self.dice, 40)
            ticker = Ticker(tree)
            stand = None
            for number, world in enumerate(some):
                result, deeds, stand = told_tick(tree, stand, world)
                self.assertEqual(ticker.tick(world), (deeds, result))
                come = dict(counts(tree, some[:number + 1]))
                ahead = dict(counts(tree, some[:number]))
                for way, place in ticker.held():
                    self.assertEqual(come[way], ahead.get(way, 0) + 1)
                    self.assertGreater(place, 0)
            self.assertEqual(ticker.told(), run(tree, some))
            self.assertEqual(ticker.told(), told_run(tree, some))

    def test_b_alike_just_if_no_row_parts_them(self):
        asked = {True: 0, False: 0}
        for tree in mixed_trees(2, 60):
            for other in changes(tree, "ab", "pq")[::9] + (no(tree), plain(tree), lean(tree)):
                told = parting(tree, other)
                self.assertIs(are_alike(tree, other), told is None)
                asked[told is None] += 1
                if told is None:
                    for again in range(5):
                        some = mixed_row(self.dice, 20)
                        self.assertEqual(run(tree, some), run(other, some))
                else:
                    self.assertNotEqual(run(tree, told), run(other, told))
                    self.assertEqual(run(tree, told[:-1]), run(other, told[:-1]))
        self.assertGreater(min(asked.values()), 30)

    def test_c_plain_and_lean(self):
        for tree in mixed_trees(3, 100):
            for other in (plain(tree), lean(tree)):
                self.assertTrue(told_tree(other))
                self.assertTrue(are_alike(tree, other))
            self.assertEqual(never(lean(tree)), ())
            for way in ways(lean(tree)):
                self.assertIsNotNone(row_to_part(lean(tree), way))

    def test_d_faults_and_clashes(self):
        for tree in mixed_trees(4, 60):
            rows = tuple(run(tree, mixed_row(self.dice, many)) for many in (3, 0, 9))
            self.assertTrue(fits(tree, rows))
            for other in mixed_trees(size(tree), 5):
                self.assertEqual(fits(other, rows), first_fault(other, rows) is None)
                self.assertEqual(fits(other, rows), faults(other, rows) == 0)
                told = parting(tree, other)
                if told is not None:
                    clashing = rows + (run(tree, told), run(other, told))
                    self.assertEqual(clash(clashing[3:]), (0, 1, len(told) - 1))
                    self.assertEqual(clash(clashing)[1], 4)
                    self.assertFalse(fits(tree, clashing) or fits(other, clashing))

    def test_e_least(self):
        for tree in all_trees("a", "pq", 4)[::8]:
            rows = (run(tree, mixed_row(self.dice, 8)),)
            told = least(rows, "a", "pq", 4)
            self.assertTrue(fits(told, rows))
            for many in range(1, size(told) + 1):
                for other in all_trees("a", "pq", many):
                    self.assertFalse(fits(other, rows) and (size(other), other) < (size(told), told))

    def test_f_best_ask(self):
        for number in range(30):
            trees = tuple(mixed_trees(number, 6))
            told = best_ask(trees, "ab", "pq")
            for world in worlds("ab", "pq"):
                self.assertLessEqual(greatest(trees, (told,)), greatest(trees, (world,)))
            for number, tree in enumerate(trees):
                left = settled(trees, run(tree, (told,)))
                self.assertIn(number, left)
                self.assertIn(left, groups(trees, (told,)))

    def test_g_a_mended_tree_fits_and_no_fewer_changes_lead_to_one(self):
        asked = {0: 0, 1: 0, 2: 0, None: 0}
        for tree in mixed_trees(5, 25) + [tree for tree in TREES if size(tree) < 6]:
            other = tree
            for number in range(4):
                rows = (run(other, mixed_row(self.dice, 12)), run(other, worlds("ab", "pq")))
                near = changes(tree, "ab", "pq")
                try:
                    many, told = mended(tree, rows, "ab", "pq")
                except NoTree:
                    many, told = None, None
                    self.assertGreater(number, 2)
                else:
                    self.assertLessEqual(many, number)
                    self.assertTrue(fits(told, rows))
                    self.assertTrue(told_tree(told))
                    self.assertEqual(apart(tree, told, "ab", "pq"), many)
                asked[many] += 1
                self.assertEqual(many == 0, fits(tree, rows))
                if many != 0:
                    self.assertEqual(next((one for one in near if fits(one, rows)), None), told if many == 1 else None)
                other = self.dice.choice(changes(other, "ab", "pq"))
        self.assertGreater(min(asked.values()), 2)

    def test_h_what_leads_somewhere_comes_there(self):
        for tree in mixed_trees(6, 60):
            own = worlds(senses_of(tree), deeds_of(tree))
            held, deeds, come, coming = set(), set(), set(), set()
            for again in range(10):
                some = tuple(self.dice.choice(own) for number in range(20))
                ticker = Ticker(tree)
                for number, world in enumerate(some):
                    told = ticker.tick(world)
                    # What mixed rows lead to is told, and no later than they come to it.
                    self.assertLessEqual(self.order(row_to_stand(tree, ticker.held())), self.order(some[:number + 1]))
                    self.assertLessEqual(self.order(row_to_deeds(tree, told[0])), self.order(some[:number + 1]))
                    self.assertLessEqual(self.order(row_to_result(tree, told[1])), self.order(some[:number + 1]))
                    held.add(ticker.held())
                    deeds.add(told[0])
                    coming.add(told[1])
                    if number > 2:
                        break
                come |= set(dict(counts(tree, some)))
            self.assertLessEqual(held, set(stands(tree)))
            self.assertLessEqual(deeds, set(all_deeds(tree)))
            self.assertLessEqual(coming, set(results(tree)))
            for way in ways(tree):
                told = row_to_part(tree, way)
                self.assertTrue(told is not None or way not in come)
                if told is not None:
                    self.assertIn(way, dict(counts(tree, told)))

    def order(self, some):
        return len(some), some

    def test_i_an_asker_has_just_the_trees_that_fit(self):
        trees = [tree for many in (1, 2, 3) for tree in all_trees("ab", "pq", many)]
        for tree in trees[::6]:
            asker = Asker("ab", "pq", 3)
            for number in range(6):
                told = run(tree, (asker.ask(),) if number % 2 else mixed_row(self.dice, number))
                kept = [other for other in trees if fits(other, asker.rows() + (told,))]
                self.assertEqual(asker.tell(told), len(kept))
                self.assertIn(tree, kept)
                self.assertEqual(asker.guess(), kept[0])

    def test_j_trees_rows_and_their_texts(self):
        for tree in mixed_trees(8, 200):
            self.assertEqual(read_tree(tree_text(tree)), tree)
            told = run(tree, mixed_row(self.dice, 15))
            self.assertEqual(read_row(row_text(told)), told)

    def test_changes_of_greater_trees(self):
        for tree in mixed_trees(9, 60):
            told = changes(tree, "bc", "r")
            self.assertTrue(is_rising(told))
            self.assertNotIn(tree, told)
            self.assertTrue(all(told_tree(other) for other in told))
            self.assertTrue(all(apart(tree, other, "bc", "r") == 1 for other in told[::20]))
            self.assertEqual(no(tree) in told, told_tree(no(tree)))


if __name__ == "__main__":
    unittest.main()
