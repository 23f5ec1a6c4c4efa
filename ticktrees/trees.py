"""Trees: what is one, what stands in it, and trees made from it."""

from ticktrees.errors import BadTree, NoPart

SENSES = ("a", "b", "c")
DEEDS = ("p", "q", "r")
WORDS_OF_MANY = ("row", "pick", "hold")
MOST_PARTS = 20
MOST_LEVELS = 6


def is_pair(thing):
    """Whether any thing is a tuple of two."""
    return isinstance(thing, tuple) and len(thing) == 2


def is_tree(thing):
    """Whether any thing is a tree."""
    return count_tree(thing, MOST_LEVELS) > 0


def count_tree(thing, levels):
    """How many parts the tree has; 0 if it is none, or is on more levels than told."""
    if levels == 0 or not is_pair(thing):
        return 0
    word, inner = thing
    if word == "if":
        return 1 if inner in SENSES else 0
    if word == "do":
        return 1 if inner in DEEDS else 0
    if word == "not":
        return count_with_parts((inner,), levels - 1)
    if word in WORDS_OF_MANY and isinstance(inner, tuple) and len(inner) >= 2:
        return count_with_parts(inner, levels - 1)
    return 0


def count_with_parts(parts, levels):
    """How many parts a tree over these has, itself counted; 0 if one is no tree, or if they are too many."""
    many = 1
    for part in parts:
        inside = count_tree(part, levels)
        many += inside
        # Left at once, as a thing that is no tree may be far greater than any tree.
        if inside == 0 or many > MOST_PARTS:
            return 0
    return many


def parts_of(tree):
    """The parts right below the tree itself, in order."""
    word, inner = tree
    if word == "not":
        return (inner,)
    if word in WORDS_OF_MANY:
        return inner
    return ()


def with_parts(tree, parts):
    """The tree with these parts right below it; a leaf has none, and is as it was."""
    word = tree[0]
    if word == "not":
        return (word, parts[0])
    if word in WORDS_OF_MANY:
        return (word, parts)
    return tree


def with_left(tree, parts):
    """The tree with these parts left right below it; of a row, pick or hold one left alone stands for it."""
    if tree[0] in WORDS_OF_MANY and len(parts) == 1:
        return parts[0]
    return with_parts(tree, parts)


def leaves_of(senses, deeds):
    """All leaves of these senses and deeds."""
    asking = [("if", sense) for sense in SENSES if sense in senses]
    return asking + [("do", deed) for deed in DEEDS if deed in deeds]


def size(tree):
    """How many parts the tree has, itself counted."""
    return 1 + sum([size(part) for part in parts_of(tree)])


def deep(tree):
    """On how many levels the tree stands."""
    return 1 + max([deep(part) for part in parts_of(tree)], default=0)


def ways(tree):
    """The ways to all parts, each ahead of those to its own parts."""
    found = [()]
    for number, part in enumerate(parts_of(tree)):
        found.extend([(number,) + way for way in ways(part)])
    return tuple(found)


def is_number_below(thing, limit):
    """Whether the thing is a whole number from 0 on, below the limit."""
    # True and False are ints to Python, but no whole numbers here.
    return isinstance(thing, int) and not isinstance(thing, bool) and 0 <= thing < limit


def part_at(tree, way):
    """The part to which the way leads."""
    part = tree
    for number in way:
        parts = parts_of(part)
        if not is_number_below(number, len(parts)):
            raise NoPart(f"no part is at {way}")
        part = parts[number]
    return part


def changed(tree, way, new):
    """The tree with the new one in the place to which the way leads."""
    # Asked first, as a way that leads nowhere is refused ahead of a bad tree.
    part_at(tree, way)
    result = put_at(tree, way, new)
    if not is_tree(result):
        raise BadTree(f"with this one at {way} it is no tree")
    return result


def put_at(tree, way, new):
    """As changed, of a way that leads to a part, but what comes of it may be no tree."""
    if not way:
        return new
    number = way[0]
    parts = parts_of(tree)
    inner = put_at(parts[number], way[1:], new)
    return with_parts(tree, parts[:number] + (inner,) + parts[number + 1:])


def senses_of(tree):
    """The senses that the tree asks, rising, as a text."""
    return "".join(sorted(set(letters_of(tree, "if"))))


def deeds_of(tree):
    """The deeds that the tree may do, rising, as a text."""
    return "".join(sorted(set(letters_of(tree, "do"))))


def letters_of(tree, word):
    """The letters of all leaves that have this word, as they stand."""
    if tree[0] == word:
        return [tree[1]]
    letters = []
    for part in parts_of(tree):
        letters.extend(letters_of(part, word))
    return letters


def plain(tree):
    """The tree with rows in rows and picks in picks made one, and without a not of a not."""
    parts = tuple([plain(part) for part in parts_of(tree)])
    word = tree[0]
    if word == "not" and parts[0][0] == "not":
        return parts[0][1]
    # A hold within a hold stays, as each has a place of its own.
    if word in ("row", "pick"):
        parts = joined(word, parts)
    return with_parts(tree, parts)


def joined(word, parts):
    """The parts, with the parts of those that have this word in their place."""
    flat = []
    for part in parts:
        if part[0] == word:
            flat.extend(part[1])
        else:
            flat.append(part)
    return tuple(flat)
