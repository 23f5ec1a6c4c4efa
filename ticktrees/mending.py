"""Mending: the trees that changes lead to, and how few of them are needed."""

from ticktrees.errors import NoTree
from ticktrees.judging import fits
from ticktrees.texts import tree_text
from ticktrees.trees import WORDS_OF_MANY, is_tree, leaves_of, part_at, put_at, ways, with_left

MOST_CHANGES = 2


def changes(tree, senses, deeds):
    """All trees that one change leads to, rising."""
    found = by_one_change(tree, leaves_of(senses, deeds))
    return tuple(sorted(found.values()))


def by_one_change(tree, leaves):
    """All trees that one change leads to, by their texts."""
    own = tree_text(tree)
    # A tree may be too deep to be a key, but its text tells it.
    found = {}
    for way in ways(tree):
        for new in instead_of(part_at(tree, way), leaves):
            result = put_at(tree, way, new)
            text = tree_text(result)
            # An exchange of two that are the same leads to the tree itself.
            if text != own and text not in found and is_tree(result):
                found[text] = result
    return found


def instead_of(part, leaves):
    """All that may stand for the part, if the change is one of it and not of a part within."""
    word, inner = part
    found = [("not", part)]
    if word == "not":
        found.append(inner)
    elif word in WORDS_OF_MANY:
        found.extend([(other, inner) for other in WORDS_OF_MANY if other != word])
        found.extend([with_left(part, inner[:at] + inner[at + 1:]) for at in range(len(inner))])
        found.extend([(word, exchanged(inner, at)) for at in range(len(inner) - 1)])
    else:
        found.extend([leaf for leaf in leaves if leaf != part])
    return found


def exchanged(parts, at):
    """The parts, that at this number and the next one exchanged."""
    return parts[:at] + (parts[at + 1], parts[at]) + parts[at + 2:]


def by_more_changes(tree, senses, deeds):
    """The trees that no change, one, and so on lead to, rising, as one tuple behind the other."""
    leaves = leaves_of(senses, deeds)
    trees = (tree,)
    yield trees
    for number in range(MOST_CHANGES):
        found = {}
        for one in trees:
            found.update(by_one_change(one, leaves))
        trees = tuple(sorted(found.values()))
        yield trees


def mended(tree, rows, senses, deeds):
    """How few changes lead to a tree that fits the rows, and the least of these trees."""
    for many, trees in enumerate(by_more_changes(tree, senses, deeds)):
        for one in trees:
            if fits(one, rows):
                return many, one
    raise NoTree(f"up to {MOST_CHANGES} changes lead to no tree that fits")


def apart(one, other, senses, deeds):
    """How few changes lead from one tree to the other; None."""
    for many, trees in enumerate(by_more_changes(one, senses, deeds)):
        if other in trees:
            return many
    return None
