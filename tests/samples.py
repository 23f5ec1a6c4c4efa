"""Trees, worlds and things that the tests share, and a second, slower telling of what the document says."""

import itertools

IF_A, IF_B, IF_C = ("if", "a"), ("if", "b"), ("if", "c")
DO_P, DO_Q, DO_R = ("do", "p"), ("do", "q"), ("do", "r")
LEAVES = (IF_A, IF_B, IF_C, DO_P, DO_Q, DO_R)


def no(part):
    return ("not", part)


def row(*parts):
    return ("row", parts)


def pick(*parts):
    return ("pick", parts)


def hold(*parts):
    return ("hold", parts)


TREES = LEAVES + (
    no(IF_A),
    no(no(DO_P)),
    row(IF_A, DO_P),
    pick(IF_B, DO_Q, DO_R),
    hold(DO_P, DO_Q),
    hold(DO_P, hold(DO_Q, DO_R), IF_A),
    hold(hold(DO_P, DO_Q), hold(DO_Q, DO_R)),
    row(IF_A, hold(DO_P, DO_Q), no(IF_C)),
    pick(no(hold(IF_A, DO_P, DO_Q)), row(IF_B, DO_R)),
    no(hold(DO_P, pick(IF_A, DO_Q))),
    row(row(IF_A, row(IF_B, DO_P)), pick(IF_C, pick(DO_Q, DO_R))),
    pick(hold(row(IF_A, DO_P), no(DO_Q)), hold(DO_Q, DO_R), DO_P),
)

# Things that are no trees and no worlds, nor parts of such.
JUNK = (
    0, 1, -1, 7, True, False, None, "", "a", "p", "d", "if", "row", "abc", "ddd", (), [], ("a",), ("if",), ["if", "a"],
    ("", ""), (0, 0), ((), ()), [[]], (None, None), (True, False), ("not",), ("row", ()), "if a",
)


def nots(many, leaf):
    """So many nots over a leaf, on many + 1 levels."""
    for number in range(many):
        leaf = no(leaf)
    return leaf


def wide(many):
    """A row of so many parts, itself counted."""
    return ("row", (IF_A,) * (many - 1))


def nested(levels, inner):
    """A thing within tuples and lists by turns, so many deep."""
    for number in range(levels):
        inner = (inner,) if number % 2 else [inner]
    return inner


def spoilt(thing):
    """The thing spoilt at any one place: exchanged, one more, left out, said twice, a list for a tuple."""
    yield from JUNK
    if isinstance(thing, str):
        yield thing + thing
        yield thing[1:]
        yield thing[::-1]
        yield thing.upper()
        yield thing + " "
        yield from ("a", "b", "c", "p", "q", "r", "x", "if", "do", "not", "row", "pick", "hold", "dfg", "x" * len(thing))
    if isinstance(thing, tuple):
        yield list(thing)
        yield thing[::-1]
        yield thing + thing
        for number, inner in enumerate(thing):
            ahead, behind = thing[:number], thing[number + 1:]
            yield ahead + behind
            yield ahead + (inner, inner) + behind
            yield ahead + (inner, None) + behind
            for other in spoilt(inner):
                yield ahead + (other,) + behind


def levels_of_tree(thing, word_letters={"if": "abc", "do": "pqr"}):
    """For each part the level on which it stands, or None of what is not built as a tree is."""
    if type(thing) is not tuple or len(thing) != 2 or type(thing[0]) is not str:
        return None
    word, inner = thing
    if word in word_letters:
        return [1] if type(inner) is str and inner in list(word_letters[word]) else None
    if word == "not":
        inner = (inner,)
    elif word not in ("row", "pick", "hold") or type(inner) is not tuple or len(inner) < 2:
        return None
    found = [levels_of_tree(part) for part in inner]
    if None in found:
        return None
    return [1] + [level + 1 for levels in found for level in levels]


def told_tree(thing):
    """Whether the document calls the thing a tree."""
    levels = levels_of_tree(thing)
    return levels is not None and len(levels) <= 20 and max(levels) <= 6


ALL_SENSES = ("", "a", "b", "c", "ab", "ac", "bc", "abc")
ALL_WORLDS = tuple(sorted(itertools.product(ALL_SENSES, map("".join, itertools.product("dfg", repeat=3)))))


def told_tick(part, stand, world):
    """What comes of a part, the deeds, and its stand: for each of its parts one, behind its own number."""
    word, inner = part
    if word == "if":
        return ("d" if inner in world[0] else "f"), "", None
    if word == "do":
        return world[1]["pqr".index(inner)], inner, None
    if word == "not":
        result, deeds, below = told_tick(inner, stand and stand[1][0], world)
        return {"d": "f", "f": "d"}.get(result, "g"), deeds, (0, (below,))
    begin = stand[0] if stand and word == "hold" else 0
    below = [None] * len(inner)
    deeds = ""
    for number in range(begin, len(inner)):
        result, more, below[number] = told_tick(inner[number], stand and stand[1][number], world)
        deeds += more
        if result != ("f" if word == "pick" else "d"):
            break
    place = number if word == "hold" and result == "g" else 0
    return result, deeds, (place, tuple(below))


def told_held(stand, way=()):
    """What held tells of a stand."""
    if stand is None:
        return ()
    found = ((way, stand[0]),) if stand[0] > 0 else ()
    for number, below in enumerate(stand[1]):
        found += told_held(below, way + (number,))
    return tuple(sorted(found))


def trees_of(many, leaves=(IF_A, DO_P, DO_Q)):
    """All trees of so many parts over these leaves."""
    if many == 1:
        return list(leaves)
    found = [no(part) for part in trees_of(many - 1, leaves)]
    for parts in rows_of_trees(many - 1, leaves):
        if len(parts) > 1:
            found += [row(*parts), pick(*parts), hold(*parts)]
    return found


def rows_of_trees(many, leaves):
    """All tuples of trees that have so many parts together."""
    if many == 0:
        return [()]
    return [(first,) + rest for here in range(1, many + 1)
            for first in trees_of(here, leaves) for rest in rows_of_trees(many - here, leaves)]


def mixed(some, many):
    """So many of the worlds, in an order that mixes them, always the same one."""
    return tuple(some[(number * number * 7 + number * 3) % len(some)] for number in range(many))


def told_run(tree, some):
    """The told row of a tree that holds no place."""
    stand, told = None, ()
    for world in some:
        result, deeds, stand = told_tick(tree, stand, world)
        told += ((world, deeds, result),)
    return told


def told_ways(part, stand, world, way=()):
    """The ways of all parts to which a tick comes."""
    word, inner = part
    found = [way]
    if word in ("if", "do"):
        return found
    inner = (inner,) if word == "not" else inner
    for number in range(stand[0] if stand and word == "hold" else 0, len(inner)):
        below = stand and stand[1][number]
        found += told_ways(inner[number], below, world, way + (number,))
        if told_tick(inner[number], below, world)[0] != ("f" if word == "pick" else "d"):
            break
    return found


def told_reached(tree, some=ALL_WORLDS):
    """What held tells, what comes, and to which ways a tick comes, of all stands to which these worlds lead."""
    seen, waiting, held, results, come = set(), [None], set(), set(), set()
    while waiting:
        stand = waiting.pop()
        if stand in seen:
            continue
        seen.add(stand)
        held.add(told_held(stand))
        for world in some:
            result, deeds, behind = told_tick(tree, stand, world)
            results.add(result)
            come.update(told_ways(tree, stand, world))
            waiting.append(behind)
    return held, results, come


def told_parting(one, other, some, most):
    """The first row of up to so many worlds, the shortest first, then the least, that parts the trees."""
    for many in range(1, most + 1):
        for tried in itertools.product(some, repeat=many):
            if told_run(one, tried) != told_run(other, tried):
                return tried
    return None


def is_rising(some):
    """Whether each is greater than the one ahead of it, so that none is there twice."""
    return all(one < other for one, other in zip(some, some[1:]))
