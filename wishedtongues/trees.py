"""Trees of locales, and wish lists of a tree."""

from wishedtongues.errors import InvalidLocale, InvalidTree, InvalidWishes
from wishedtongues.kinds import check_choice, is_integer_within, is_tuple
from wishedtongues.paths import (
    ends_with_root,
    has_locale,
    has_wishes,
    longer,
    looked_of,
    path_of,
    slim_of,
    slim_sizes,
)

MOST_LOCALES = 10


def is_tree(value):
    """Whether any value is a tree."""
    if not is_tuple(value) or not 1 <= len(value) <= MOST_LOCALES:
        return False
    if value[0] is not None:
        return False
    return all([is_integer_within(value[index], 0, index - 1) for index in range(1, len(value))])


def check_tree(tree):
    """Raise InvalidTree unless this is a tree."""
    if not is_tree(tree):
        raise InvalidTree("this is no tree")


def check_locale(tree, locale):
    """Raise InvalidLocale unless this is a locale of the tree."""
    if not has_locale(tree, locale):
        raise InvalidLocale("this is no locale of the tree")


def check_wishes(tree, wishes):
    """Raise InvalidWishes unless this is a wish list of the tree."""
    if not has_wishes(tree, wishes):
        raise InvalidWishes("this is no wish list of the tree")


def is_locale(tree, value):
    """Whether any value is a locale of the tree."""
    check_tree(tree)
    return has_locale(tree, value)


def is_wishes(tree, value):
    """Whether any value is a wish list of the tree."""
    check_tree(tree)
    return has_wishes(tree, value)


def path(tree, locale):
    """The tuple of the locale and the ones above it, up to the last ahead of the root."""
    check_tree(tree)
    check_locale(tree, locale)
    return path_of(tree, locale)


def tongue(tree, locale):
    """The last locale of the path of the locale."""
    check_tree(tree)
    check_locale(tree, locale)
    return path_of(tree, locale)[-1]


def slim(tree, wishes):
    """The slim list of the wish list."""
    check_tree(tree)
    check_wishes(tree, wishes)
    return slim_of(tree, wishes)


def looked(tree, wishes):
    """The tuple of the locales as the way "key" comes to each for the first time."""
    check_tree(tree)
    check_wishes(tree, wishes)
    return looked_of(tree, wishes)


def same_wishes(tree, wishes, other_wishes):
    """Whether both wish lists show the same in each catalog of the tree."""
    check_tree(tree)
    check_wishes(tree, wishes)
    check_wishes(tree, other_wishes)
    return slim_of(tree, wishes) == slim_of(tree, other_wishes)


def count_slim(tree):
    """How many slim lists there are, of any length."""
    check_tree(tree)
    # The root may stand ahead of any wish of such a list, or nowhere.
    return sum([(size + 1) * many for size, many in enumerate(slim_sizes(tree))])


def slim_lists(tree, *, longest=2, most=1000):
    """Iterate over the first slim lists, fewer wishes first, then ascending."""
    check_tree(tree)
    check_choice(longest, 0, 10)
    check_choice(most, 1, 1000)
    lists = [()]
    many = 0
    for size in range(longest + 1):
        if size > 0:
            lists = longer(tree, lists)
        for wishes in lists:
            if not ends_with_root(wishes):
                yield wishes
                many += 1
                if many == most:
                    return
