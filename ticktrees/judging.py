"""Judging: what trees tell of rows, and whether rows agree."""

from ticktrees.ticking import Tick, Ticker


def fits(tree, rows):
    """Whether the tree tells each row as it is."""
    return first_fault(tree, rows) is None


def first_fault(tree, rows):
    """The numbers of the first row, and of the first tick in it, that the tree tells otherwise; None."""
    for number, row in enumerate(rows):
        place = fault_in(tree, row)
        if place is not None:
            return number, place
    return None


def faults(tree, rows):
    """How many rows the tree tells otherwise."""
    return len([row for row in rows if fault_in(tree, row) is not None])


def fault_in(tree, row):
    """The number of the first tick in the row that the tree tells otherwise; None."""
    ticker = Ticker(tree)
    for number, (world, deeds, result) in enumerate(row):
        if ticker.tick(world) != (deeds, result):
            return number
    return None


def counts(tree, some):
    """For each way to which a new ticker's ticks in these worlds come, how many do."""
    many = {}
    places = {}
    for world in some:
        one = Tick(tree, places, world)
        places = one.places
        for way in one.trail:
            many[way] = many.get(way, 0) + 1
    return tuple(sorted(many.items()))


def clash(rows):
    """Two rows that no tree can tell both, and the tick at which they tell otherwise; None."""
    for other in range(len(rows)):
        for one in range(other):
            number = clash_of(rows[one], rows[other])
            if number is not None:
                return one, other, number
    return None


def clash_of(one, other):
    """The first tick at which the rows tell otherwise, if their worlds are alike up to it; None."""
    for number, (here, there) in enumerate(zip(one, other)):
        # Behind worlds that are not alike a tree may hold other places, and tell anything.
        if here[0] != there[0]:
            return None
        if here != there:
            return number
    return None
