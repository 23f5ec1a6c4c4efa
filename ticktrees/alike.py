"""Alike: whether rows part two trees, and what may ever come of a tree."""

from ticktrees.ticking import RESULTS, Tick, stand_of, worlds
from ticktrees.trees import WORDS_OF_MANY, deeds_of, parts_of, senses_of, ways, with_parts


class Steps:
    """The ticks of a tree from any stand in any world, each done once."""

    def __init__(self, tree):
        self.tree = tree
        self.known = {}

    def step(self, stand, world):
        """The tick in this world while these places are held."""
        key = (stand, world)
        if key not in self.known:
            self.known[key] = Tick(self.tree, {way: number for way, number in stand}, world)
        return self.known[key]


def parting(one, other):
    """The shortest worlds, of these the least, of which the trees tell otherwise; None."""
    some = worlds(senses_of(one) + senses_of(other), deeds_of(one) + deeds_of(other))
    left, right = Steps(one), Steps(other)
    # Each pair of stands waits once, behind its shortest and least row, so that the first row found is it.
    waiting = [((), (), ())]
    seen = {((), ()): True}
    at = 0
    while at < len(waiting):
        left_stand, right_stand, row = waiting[at]
        at += 1
        for world in some:
            here, there = left.step(left_stand, world), right.step(right_stand, world)
            if (here.deeds, here.result) != (there.deeds, there.result):
                return row + (world,)
            pair = (stand_of(here.places), stand_of(there.places))
            if pair not in seen:
                seen[pair] = True
                waiting.append(pair + (row + (world,),))
    return None


def are_alike(one, other):
    """Whether no row of worlds parts the trees."""
    return parting(one, other) is None


def all_ticks(tree):
    """All ticks that the tree may do: from each stand to which it may come, in each world."""
    # Senses and deeds that do not stand in the tree make no difference to it.
    some = worlds(senses_of(tree), deeds_of(tree))
    steps = Steps(tree)
    found = []
    seen = {}
    waiting = [()]
    while waiting:
        stand = waiting.pop()
        if stand not in seen:
            seen[stand] = True
            ticks = [steps.step(stand, world) for world in some]
            found.extend(ticks)
            waiting.extend([stand_of(one.places) for one in ticks])
    return found


def stands(tree):
    """All that held may tell of a ticker of the tree, rising."""
    return tuple(sorted(set([()] + [stand_of(one.places) for one in all_ticks(tree)])))


def results(tree):
    """All results that may come of a tick, as a text."""
    coming = {one.result: True for one in all_ticks(tree)}
    return "".join([sign for sign in RESULTS if sign in coming])


def never(tree):
    """The ways to the parts to which no tick comes, but not to those within such, rising."""
    come = {way: True for one in all_ticks(tree) for way in one.trail}
    return tuple([way for way in ways(tree) if way not in come and way[:-1] in come])


def lean(tree):
    """The tree without the parts to which no tick comes."""
    return without(tree, (), never(tree))


def without(part, way, left_out):
    """The part to which the way leads, without those that are left out within it."""
    kept = []
    for number, inner in enumerate(parts_of(part)):
        inner_way = way + (number,)
        if inner_way not in left_out:
            kept.append(without(inner, inner_way, left_out))
    if part[0] in WORDS_OF_MANY and len(kept) == 1:
        return kept[0]
    return with_parts(part, tuple(kept))
