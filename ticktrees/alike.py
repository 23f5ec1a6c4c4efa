"""Alike: whether rows part two trees, and what may ever come of a tree."""

from ticktrees.ticking import RESULTS, Tick, stand_of, worlds
from ticktrees.trees import deeds_of, parts_of, senses_of, ways, with_left


class Steps:
    """The ticks of a tree from any stand in any world, each done once."""

    def __init__(self, tree):
        self.tree = tree
        self.known = {}

    def step(self, stand, world):
        """The tick in this world while these places are held."""
        key = (stand, world)
        if key not in self.known:
            self.known[key] = Tick(self.tree, {way: number for way, number in stand}, world)
        return self.known[key]


def joint_ticks(trees):
    """All ticks of these trees in the same worlds, behind the rows that end so: the shortest first, then the least."""
    # Senses and deeds that do not stand in the trees make no difference to them.
    some = worlds("".join([senses_of(tree) for tree in trees]), "".join([deeds_of(tree) for tree in trees]))
    steps = [Steps(tree) for tree in trees]
    begin = tuple([() for tree in trees])
    # All stands together wait once, behind their shortest and least row, so that rows are told in order.
    waiting = [(begin, ())]
    seen = {begin: True}
    at = 0
    while at < len(waiting):
        before, row = waiting[at]
        at += 1
        for world in some:
            ticks = [one.step(stand, world) for one, stand in zip(steps, before)]
            yield (row + (world,), ticks)
            behind = tuple([stand_of(one.places) for one in ticks])
            if behind not in seen:
                seen[behind] = True
                waiting.append((behind, row + (world,)))


def parting(one, other):
    """The shortest worlds, of these the least, of which the trees tell otherwise; None."""
    both = (one, other)
    for row, (here, there) in joint_ticks(both):
        if (here.deeds, here.result) != (there.deeds, there.result):
            return row
    return None


def are_alike(one, other):
    """Whether no row of worlds parts the trees."""
    return parting(one, other) is None


def all_ticks(tree):
    """All ticks that the tree may do, behind the rows of worlds that end so: the shortest first, then the least."""
    alone = (tree,)
    for row, ticks in joint_ticks(alone):
        yield (row, ticks[0])


def stands(tree):
    """All that held may tell of a ticker of the tree, rising."""
    return tuple(sorted(set([()] + [stand_of(one.places) for row, one in all_ticks(tree)])))


def results(tree):
    """All results that may come of a tick, as a text."""
    coming = {one.result: True for row, one in all_ticks(tree)}
    return "".join([sign for sign in RESULTS if sign in coming])


def never(tree):
    """The ways to the parts to which no tick comes, but not to those within such, rising."""
    come = {way: True for row, one in all_ticks(tree) for way in one.trail}
    return tuple([way for way in ways(tree) if way not in come and way[:-1] in come])


def lean(tree):
    """The tree without the parts to which no tick comes."""
    return without(tree, (), never(tree))


def without(part, way, left_out):
    """The part to which the way leads, without those that are left out within it."""
    kept = []
    for number, inner in enumerate(parts_of(part)):
        inner_way = way + (number,)
        if inner_way not in left_out:
            kept.append(without(inner, inner_way, left_out))
    return with_left(part, tuple(kept))
