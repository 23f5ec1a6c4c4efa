"""Texts: trees and told rows as they are written and read, and pictures of trees."""

from ticktrees.errors import NoText
from ticktrees.ticking import RESULTS, is_world
from ticktrees.trees import DEEDS, MOST_LEVELS, SENSES, WORDS_OF_MANY, is_tree, leaves_of, part_at, parts_of, ways


def tree_text(tree):
    """The tree as one line, without a line feed."""
    parts = parts_of(tree)
    if not parts:
        return label(tree)
    return label(tree) + "(" + ", ".join([tree_text(part) for part in parts]) + ")"


def label(part):
    """A leaf with its letter, and of all others the word alone."""
    return part[0] if parts_of(part) else f"{part[0]} {part[1]}"


def read_tree(text):
    """The tree of which this is the text."""
    reader = Reader(text)
    tree = reader.read_part(MOST_LEVELS)
    if reader.at < len(text) or not is_tree(tree):
        raise NoText("this is the text of no tree")
    return tree


class Reader:
    """A text of a tree, and how far it was read."""

    def __init__(self, text):
        self.text = text
        self.at = 0

    def take(self, piece):
        """Whether this piece stands next; if so it is read."""
        stands_next = self.text.startswith(piece, self.at)
        if stands_next:
            self.at += len(piece)
        return stands_next

    def need(self, piece):
        """Reads this piece, which must stand next."""
        if not self.take(piece):
            raise NoText(f"no {piece} stands at {self.at}")

    def read_part(self, levels):
        """Reads a part on up to so many levels."""
        # Refused here, so that no text leads deeper than a tree goes.
        if levels == 0:
            raise NoText("a tree is not so deep")
        for leaf in leaves_of(SENSES, DEEDS):
            if self.take(label(leaf)):
                return leaf
        for word in WORDS_OF_MANY:
            if self.take(word + "("):
                return (word, self.read_parts(levels - 1))
        self.need("not(")
        part = self.read_part(levels - 1)
        self.need(")")
        return ("not", part)

    def read_parts(self, levels):
        """Reads parts, each on up to so many levels, and the bracket behind them."""
        found = [self.read_part(levels)]
        while self.take(", "):
            found.append(self.read_part(levels))
        self.need(")")
        return tuple(found)


def row_text(row):
    """The told row, a line for each tick."""
    return "".join([f"{senses} {coming} {deeds} {result}\n" for (senses, coming), deeds, result in row])


def read_row(text):
    """The told row of which this is the text."""
    lines = text.split("\n")
    # Behind the last line feed stands nothing.
    if lines[-1] != "":
        raise NoText("no line feed stands behind the last line")
    return tuple([read_tick(line) for line in lines[:-1]])


def read_tick(line):
    """The tick that a line tells."""
    pieces = line.split(" ")
    if len(pieces) != 4:
        raise NoText("a line has four pieces with a blank between")
    senses, coming, deeds, result = pieces
    if not is_world((senses, coming)) or not are_deeds(deeds) or result not in RESULTS:
        raise NoText("this line tells no tick")
    return (senses, coming), deeds, result


def are_deeds(text):
    """Whether no other letters than those of deeds stand in the text."""
    return all([letter in DEEDS for letter in text])


def picture(tree):
    """The tree with a line for each part, two blanks for each level above it."""
    return "".join(["  " * len(way) + label(part_at(tree, way)) + "\n" for way in ways(tree)])
