"""Askers: which trees are left behind rows told, and what to ask next."""

from ticktrees.alike import are_alike
from ticktrees.asking import best_ask
from ticktrees.errors import NoDeed, NoTree
from ticktrees.judging import fits
from ticktrees.making import all_trees, refuse_above

MOST_ASKED = 4
FIRST_ONES = 12


class Asker:
    """All small trees of some senses and deeds, less those that do not fit the rows told."""

    def __init__(self, senses, deeds, most):
        refuse_above(most, MOST_ASKED)
        self.senses = senses
        self.deeds = deeds
        self.told_rows = []
        trees = []
        for many in range(1, most + 1):
            trees.extend(all_trees(senses, deeds, many))
        self.trees = tuple(trees)
        # For each row told: the trees that were left ahead of it.
        self.past = []

    def tell(self, row):
        """Leaves out the trees that do not fit this row: how many are left."""
        kept = tuple([tree for tree in self.trees if fits(tree, (row,))])
        if not kept:
            raise NoTree("no tree that is left fits this row")
        self.past.append(self.trees)
        self.told_rows.append(row)
        self.trees = kept
        return len(kept)

    def left(self):
        """How many trees are left."""
        return len(self.trees)

    def guess(self):
        """The first tree that is left."""
        # Of no parts, or of no letters, there is none from the beginning.
        return self.trees[0] if self.trees else None

    def rows(self):
        """All rows told, as they came."""
        return tuple(self.told_rows)

    def ask(self):
        """The best world to ask next, of the first trees that are left."""
        return best_ask(self.trees[:FIRST_ONES], self.senses, self.deeds)

    def is_settled(self):
        """Whether all trees that are left are alike."""
        # Trees that are alike with one are so with one another.
        return all([are_alike(self.trees[0], tree) for tree in self.trees])

    def undo(self):
        """Takes the last row told back."""
        if not self.past:
            raise NoDeed("no row is left to be taken back")
        self.trees = self.past.pop()
        self.told_rows.pop()
