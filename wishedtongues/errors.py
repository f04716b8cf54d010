"""The errors of the package, all directly under WishError."""


class WishError(ValueError):
    """Any error that the package raises by itself."""


class InvalidTree(WishError):
    """A value is no tree."""


class InvalidLocale(WishError):
    """A value is no locale of the tree."""


class InvalidWishes(WishError):
    """A value is no wish list of the tree."""


class InvalidWay(WishError):
    """A value is no way to fall back."""


class InvalidCatalog(WishError):
    """A value is no catalog."""


class InvalidKey(WishError):
    """A value is no key of the catalog."""


class InvalidText(WishError):
    """A value is no text."""


class InvalidPage(WishError):
    """A value is no page of the catalog."""


class InvalidDoor(WishError):
    """A value is no door of the tree."""


class InvalidChoice(WishError):
    """A number that limits an answer is out of its range."""


class InvalidIndex(WishError):
    """A value is no index of a door."""


class Unlike(WishError):
    """Two things that do not belong together stand side by side."""


class Needless(WishError):
    """An entry would be needless behind the put."""


class NothingThere(WishError):
    """There is no entry to take."""


class NoBlock(WishError):
    """There is no block to finish."""


class NothingToUndo(WishError):
    """There is no deed to take back."""


class InvalidCommand(WishError):
    """A value is no command of the console."""


class Mixed(WishError):
    """The page could be mixed; wishes is a list that would mix it."""

    def __init__(self, wishes):
        super().__init__("a wish list mixes the page")
        self.wishes = wishes


class InvalidWords(WishError):
    """A text cannot be read; place is the number of its first wrong word."""

    def __init__(self, place):
        super().__init__("a word cannot stand in its place")
        self.place = place
