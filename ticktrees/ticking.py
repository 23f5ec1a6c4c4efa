"""Ticking: worlds, and what the ticks of a tree do in them."""

from ticktrees.errors import NoDeed
from ticktrees.trees import DEEDS, SENSES, is_pair

RESULTS = ("d", "f", "g")
TURNED = {"d": "f", "f": "d", "g": "g"}


def is_world(thing):
    """Whether any thing is a world."""
    return is_pair(thing) and thing[0] in texts_of_senses(SENSES) and thing[1] in texts_of_results(DEEDS)


def worlds(senses, deeds):
    """All worlds, rising, in which no other senses hold and other deeds are done."""
    comings = texts_of_results(deeds)
    return tuple(sorted([(holding, coming) for holding in texts_of_senses(senses) for coming in comings]))


def texts_of_senses(senses):
    """The texts of all choices among these senses."""
    texts = [""]
    for sense in SENSES:
        if sense in senses:
            texts = texts + [text + sense for text in texts]
    return texts


def texts_of_results(deeds):
    """The texts of all that may come of p, q and r, if only these deeds may be other than done."""
    texts = [""]
    for deed in DEEDS:
        signs = RESULTS if deed in deeds else ("d",)
        texts = [text + sign for text in texts for sign in signs]
    return texts


class Tick:
    """One tick through a tree: to which parts it came, what it did, and which places it holds."""

    def __init__(self, tree, before, world):
        self.before = before
        self.world = world
        # Kept apart from those before, so that a place is let go if it is not held anew.
        self.places = {}
        self.trail = []
        self.deeds = ""
        self.result = self.come_to(tree, ())

    def come_to(self, part, way):
        """What comes of the part to which the way leads."""
        self.trail.append(way)
        word, inner = part
        if word == "if":
            return "d" if inner in self.world[0] else "f"
        if word == "do":
            self.deeds += inner
            return self.world[1][DEEDS.index(inner)]
        if word == "not":
            return TURNED[self.come_to(inner, way + (0,))]
        if word == "hold":
            return self.come_to_hold(inner, way)
        return self.come_along(inner, way, 0, "f" if word == "pick" else "d")[0]

    def come_to_hold(self, parts, way):
        """What comes of a hold of these parts."""
        result, number = self.come_along(parts, way, self.before.get(way, 0), "d")
        # A hold that holds 0 begins as one that holds none.
        if result == "g" and number > 0:
            self.places[way] = number
        return result

    def come_along(self, parts, way, number, sign):
        """From the part of this number on, as long as the sign comes: what came last, and of which number."""
        result = self.come_to(parts[number], way + (number,))
        while result == sign and number + 1 < len(parts):
            number += 1
            result = self.come_to(parts[number], way + (number,))
        return result, number


def stand_of(places):
    """The places that are held as a rising tuple of pairs, which can be a key."""
    return tuple(sorted(places.items()))


class Ticker:
    """A tree with the places that it holds, and all its ticks."""

    def __init__(self, tree):
        self.tree = tree
        self.places = {}
        self.ticks = []
        # For each tick and letting go: the places, and how many ticks there were, ahead of it.
        self.past = []

    def tick(self, world):
        """Does one tick: a pair of the deeds and the result."""
        one = Tick(self.tree, self.places, world)
        self.keep_past()
        self.places = one.places
        self.ticks.append((world, one.deeds, one.result))
        return one.deeds, one.result

    def held(self):
        """The ways of the holds that are not at their beginning, with the numbers that they hold."""
        return stand_of(self.places)

    def told(self):
        """The told row of all ticks."""
        return tuple(self.ticks)

    def let_go(self):
        """Lets all places go."""
        self.keep_past()
        self.places = {}

    def undo(self):
        """Takes the last tick, or letting go, back."""
        if not self.past:
            raise NoDeed("nothing is left to be taken back")
        places, many = self.past.pop()
        self.places = places
        del self.ticks[many:]

    def keep_past(self):
        """Keeps what undo needs; places are never changed, only replaced."""
        self.past.append((self.places, len(self.ticks)))


def ticked(tree, some):
    """A new ticker behind its ticks in these worlds."""
    ticker = Ticker(tree)
    for world in some:
        ticker.tick(world)
    return ticker


def run(tree, some):
    """The told row of a new ticker's ticks in these worlds."""
    return ticked(tree, some).told()
