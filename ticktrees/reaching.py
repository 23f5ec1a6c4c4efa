"""Reaching: the shortest rows of worlds that lead a tree somewhere, and what its ticks may do."""

from ticktrees.alike import all_ticks
from ticktrees.ticking import stand_of
from ticktrees.trees import part_at


def row_to_part(tree, way):
    """The shortest worlds, of these the least, the last tick of which comes to this part; None."""
    # Asked first, as a way that leads nowhere is refused.
    part_at(tree, way)
    return first_row(tree, lambda one: way in one.trail)


def row_to_result(tree, sign):
    """The shortest worlds, of these the least, of the last tick of which this sign comes; None."""
    return first_row(tree, lambda one: one.result == sign)


def row_to_deeds(tree, deeds):
    """The shortest worlds, of these the least, the last tick of which does just these deeds; None."""
    return first_row(tree, lambda one: one.deeds == deeds)


def row_to_stand(tree, held):
    """The shortest worlds, of these the least, behind which just this is held; None."""
    # A new ticker holds nothing, ahead of any tick.
    if held == ():
        return ()
    # Compared as it is written, as Python takes True for 1, but it is no whole number here.
    written = repr(held)
    return first_row(tree, lambda one: repr(stand_of(one.places)) == written)


def first_row(tree, is_so):
    """The first row of worlds, the shortest first, then the least, whose last tick is so; None."""
    for row, one in all_ticks(tree):
        if is_so(one):
            return row
    return None


def all_deeds(tree):
    """All texts of deeds that a tick may do, in any stand, rising."""
    return tuple(sorted(set([one.deeds for row, one in all_ticks(tree)])))
