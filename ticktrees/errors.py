"""What is raised when something is refused."""


class TickError(ValueError):
    """Any refusal."""


class NoPart(TickError):
    """A way leads to no part of the tree."""


class NoTree(TickError):
    """No tree is as it was asked for."""


class TooMany(TickError):
    """More parts were asked for than are tried."""


class NoDeed(TickError):
    """Nothing is left to be taken back."""


class BadTree(TickError):
    """What would come of a change is no tree."""


class NoText(TickError):
    """A text is not that of a tree, or of a told row."""
