"""What doors do to wish lists; all arguments but a value are taken to be valid.

If two rows of doors part some wish list, they part one of at most two wishes,
and so for what a catalog shows behind them (F10).
"""

from wishedtongues.kinds import is_ascending, is_tuple
from wishedtongues.paths import has_wishes, path_of, slim_of
from wishedtongues.showing import row_of


def has_pair(tree, value):
    """Whether any value is a pair of locales."""
    return has_wishes(tree, value) and len(value) == 2


def has_pairs(tree, value):
    """Whether any value can be the pairs of a door."""
    if not is_tuple(value) or not all([has_pair(tree, pair) for pair in value]):
        return False
    return is_ascending([pair[0] for pair in value])


def has_door(tree, value):
    """Whether any value is a door of the tree."""
    if not is_tuple(value) or len(value) != 2 or not isinstance(value[0], str):
        return False
    word, told = value
    if word in ("only", "lift"):
        return has_wishes(tree, told) and is_ascending(told)
    if word == "swap":
        return has_pairs(tree, told)
    return word in ("head", "pad") and has_wishes(tree, told)


def lifted(tree, locales, wish):
    """The wish lifted to the first of the locales on its path, as a list; or none."""
    return [step for step in path_of(tree, wish) if step in locales][:1]


def swapped(pairs, wish):
    """The second entry of the pair that the wish is the first entry of, or the wish."""
    for first, second in pairs:
        if first == wish:
            return second
    return wish


def behind_door(tree, door, wishes):
    """The wish list behind one door."""
    word, told = door
    if word == "only":
        return tuple([wish for wish in wishes if wish in told])
    if word == "lift":
        return tuple([step for wish in wishes for step in lifted(tree, told, wish)])
    if word == "swap":
        return tuple([swapped(told, wish) for wish in wishes])
    if word == "head":
        return told + wishes
    return wishes + told


def behind_doors(tree, doors, wishes):
    """The wish list behind all doors of the row, one behind the other."""
    behind = wishes
    for door in doors:
        behind = behind_door(tree, door, behind)
    return behind


def all_short_lists(tree):
    """All lists of at most two wishes, also those not slim, fewer wishes first, then ascending."""
    locales = range(len(tree))
    pairs = [(wish, other_wish) for wish in locales for other_wish in locales]
    return [()] + [(wish,) for wish in locales] + pairs


def first_parted(tree, doors, other_doors):
    """The first wish list that becomes two lists with unlike slim lists, or None."""
    for wishes in all_short_lists(tree):
        behind = behind_doors(tree, doors, wishes)
        other_behind = behind_doors(tree, other_doors, wishes)
        if slim_of(tree, behind) != slim_of(tree, other_behind):
            return wishes
    return None


def shows_same(catalog, doors, other_doors):
    """Whether each wish list has the same shown row behind both rows of doors."""
    tree = catalog[0]
    for wishes in all_short_lists(tree):
        row = row_of(catalog, behind_doors(tree, doors, wishes))
        if row != row_of(catalog, behind_doors(tree, other_doors, wishes)):
            return False
    return True
