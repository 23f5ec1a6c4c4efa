"""Making: all small trees, and those of them that tell rows."""

from ticktrees.errors import NoTree, TooMany
from ticktrees.judging import fits
from ticktrees.trees import WORDS_OF_MANY, leaves_of

MOST_MADE = 5


def all_trees(senses, deeds, many):
    """All trees of so many parts in which no other senses and deeds stand, rising."""
    refuse_above(many, MOST_MADE)
    trees = {1: leaves_of(senses, deeds)}
    rows = {0: [()]}
    for number in range(2, many + 1):
        rows[number - 1] = rows_of_trees(trees, rows, number - 1)
        trees[number] = trees_over(trees[number - 1], rows[number - 1])
    return tuple(sorted(trees.get(many, [])))


def refuse_above(many, limit):
    """Refuses numbers of parts of which there are more trees than are made."""
    if many > limit:
        raise TooMany(f"trees of more than {limit} parts are not made")


def rows_of_trees(trees, rows, many):
    """All tuples of trees that have so many parts together, told all trees and smaller tuples by their parts."""
    found = []
    for ahead in range(1, many + 1):
        found.extend([(first,) + rest for first in trees[ahead] for rest in rows[many - ahead]])
    return found


def trees_over(inner, rows):
    """All trees that have one of the inner ones, or one of these rows of two or more, right below them."""
    found = [("not", part) for part in inner]
    for word in WORDS_OF_MANY:
        found.extend([(word, parts) for parts in rows if len(parts) > 1])
    return found


def fitting(rows, senses, deeds, many):
    """Those of all trees of so many parts that fit the rows."""
    return tuple([tree for tree in all_trees(senses, deeds, many) if fits(tree, rows)])


def least(rows, senses, deeds, most):
    """Of the trees of up to most parts that fit the rows, with the fewest parts, the least."""
    # Refused here, as a small tree that fits would be told ahead of it.
    refuse_above(most, MOST_MADE)
    for many in range(1, most + 1):
        for tree in all_trees(senses, deeds, many):
            if fits(tree, rows):
                return tree
    raise NoTree(f"no tree of up to {most} parts fits")
