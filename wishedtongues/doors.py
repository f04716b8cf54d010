"""Doors that change a wish list on its way, and rows of doors."""

from wishedtongues.catalogs import check_catalog
from wishedtongues.errors import InvalidDoor, InvalidIndex, Unlike
from wishedtongues.kinds import is_integer_within, is_tuple
from wishedtongues.passing import behind_doors, first_parted, has_door, shows_same
from wishedtongues.trees import check_tree, check_wishes


def is_door(tree, value):
    """Whether any value is a door of the tree."""
    check_tree(tree)
    return has_door(tree, value)


def check_door(tree, door):
    """Raise InvalidDoor unless this is a door of the tree."""
    if not has_door(tree, door):
        raise InvalidDoor("this is no door of the tree")


class Doors:
    """A row of doors, which are passed one behind the other; it does not change."""

    def __init__(self, tree, *doors):
        check_tree(tree)
        for door in doors:
            check_door(tree, door)
        self._tree = tree
        self._doors = doors

    @staticmethod
    def of(tree, doors):
        """The row of a tuple of doors."""
        check_tree(tree)
        if not is_tuple(doors):
            raise InvalidDoor("this is no tuple of doors")
        return Doors(tree, *doors)

    @property
    def tree(self):
        """The tree."""
        return self._tree

    @property
    def doors(self):
        """The tuple of the doors."""
        return self._doors

    def __call__(self, wishes):
        check_wishes(self._tree, wishes)
        return behind_doors(self._tree, self._doors, wishes)

    def __len__(self):
        return len(self._doors)

    def __getitem__(self, at):
        if not is_integer_within(at, 0, len(self._doors) - 1):
            raise InvalidIndex("this is no index of a door")
        return self._doors[at]

    def __iter__(self):
        raise TypeError("doors are not iterated over")

    def __add__(self, b):
        self._check_like(b)
        doors = self._doors + b._doors
        return Doors(self._tree, *doors)

    def __eq__(self, other):
        if not isinstance(other, Doors) or other._tree != self._tree:
            return False
        return first_parted(self._tree, self._doors, other._doors) is None

    def parting(self, b):
        """The least of the shortest lists that become unlike behind both rows, or None."""
        self._check_like(b)
        return first_parted(self._tree, self._doors, b._doors)

    def same_here(self, b, catalog):
        """Whether each wish list has the same shown row in the catalog behind both rows."""
        self._check_like(b)
        check_catalog(catalog)
        if catalog[0] != self._tree:
            raise Unlike("the catalog has another tree")
        return shows_same(catalog, self._doors, b._doors)

    def behind(self, door):
        """The row with one door more at its end."""
        return Doors(self._tree, *self._doors, door)

    def _check_like(self, b):
        """Raise Unlike unless this is a row of doors with an equal tree."""
        if not isinstance(b, Doors) or b._tree != self._tree:
            raise Unlike("this is no row of doors of the same tree")
