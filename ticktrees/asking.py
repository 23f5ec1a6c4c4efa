"""Asking: which worlds tell trees apart, and which world does it best."""

from ticktrees.judging import fits
from ticktrees.ticking import run, ticked, worlds


def groups(trees, some):
    """The numbers of the trees, those together whose runs of these worlds are alike."""
    return grouped([run(tree, some) for tree in trees])


def grouped(told):
    """The numbers of the things told, those together that are the same."""
    together = {}
    for number, one in enumerate(told):
        together.setdefault(one, []).append(number)
    return tuple(sorted([tuple(numbers) for numbers in together.values()]))


def greatest(trees, some):
    """How many trees are in the greatest of the groups."""
    return greatest_of(groups(trees, some))


def greatest_of(some_groups):
    """How many the greatest group has."""
    return max([len(group) for group in some_groups], default=0)


def best_ask(trees, senses, deeds):
    """The world that, asked alone, leaves the fewest trees together at the most."""
    return best_next(trees, (), senses, deeds)


def best_next(trees, ahead, senses, deeds):
    """The world that, asked behind those ahead, leaves the fewest trees together at the most."""
    tickers = [ticked(tree, ahead) for tree in trees]
    # Of several that are as good min tells the first, and worlds rise.
    return min(worlds(senses, deeds), key=lambda world: greatest_of(grouped(told_with(tickers, world))))


def told_with(tickers, world):
    """What each ticker would tell with one tick more; it is taken back."""
    told = []
    for ticker in tickers:
        ticker.tick(world)
        told.append(ticker.told())
        ticker.undo()
    return told


def settled(trees, row):
    """The numbers of the trees that fit this row."""
    return tuple([number for number, tree in enumerate(trees) if fits(tree, (row,))])
