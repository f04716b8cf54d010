"""Paths and wish lists of a tree; all arguments are taken to be valid."""

from math import comb

from wishedtongues.kinds import is_integer_within, is_tuple


def has_locale(tree, value):
    """Whether any value is a locale of the tree."""
    return is_integer_within(value, 0, len(tree) - 1)


def has_wishes(tree, value):
    """Whether any value is a wish list of the tree."""
    return is_tuple(value) and all([has_locale(tree, wish) for wish in value])


def path_of(tree, locale):
    """The locale and the ones above it, without the root unless it is the root."""
    steps = [locale]
    parent = tree[locale]
    while parent is not None and parent != 0:
        steps.append(parent)
        parent = tree[parent]
    return tuple(steps)


def passed_by(tree, wishes):
    """The locales on the paths of the wishes, each once, as first come to."""
    passed = []
    for wish in wishes:
        for locale in path_of(tree, wish):
            if locale not in passed:
                passed.append(locale)
    return tuple(passed)


def looked_of(tree, wishes):
    """The locales that the wishes lead to, and the root at the end."""
    return passed_by(tree, wishes + (0,))


def slim_of(tree, wishes):
    """The slim list of a wish list."""
    kept = []
    passed = []
    for wish in wishes:
        # A wish that is left out adds nothing: its path is a part of an earlier one.
        if wish not in passed:
            kept.append(wish)
            passed.extend(path_of(tree, wish))
    if ends_with_root(kept):
        kept.pop()
    return tuple(kept)


def ends_with_root(wishes):
    """Whether there are wishes and the last one is the root."""
    return len(wishes) > 0 and wishes[-1] == 0


def longer(tree, lists):
    """Each list with one wish more that is on none of its paths, in sequence.

    If the lists are ascending, so are the longer ones. A list that ends with
    the root is not slim, but stays: a wish behind it can make it slim.
    """
    found = []
    for wishes in lists:
        passed = passed_by(tree, wishes)
        for locale in range(len(tree)):
            if locale not in passed:
                found.append(wishes + (locale,))
    return found


def short_lists(tree, longest):
    """Lists of at most so many wishes, fewer first, then ascending.

    All slim ones are among them, so the first of all lists that shows something
    is the first of these.
    """
    found = [()]
    lists = [()]
    for _ in range(longest):
        lists = longer(tree, lists)
        found = found + lists
    return found


def slim_sizes(tree):
    """For each number, how many slim lists without the root have so many wishes."""
    below = [[1] for _ in tree]
    # A locale comes behind its parent, so all that is below it is done before it.
    for locale in range(len(tree) - 1, 0, -1):
        parent = tree[locale]
        below[parent] = shuffled(below[parent], with_head(below[locale]))
    return below[0]


def with_head(sizes):
    """The numbers of lists by size if a head may stand ahead of each list, too."""
    return [without + behind for without, behind in zip(sizes + [0], [0] + sizes)]


def shuffled(sizes, other_sizes):
    """The numbers of lists by size, each shuffled from one list of both sides."""
    mixed = [0] * (len(sizes) + len(other_sizes) - 1)
    for size, many in enumerate(sizes):
        for other_size, other_many in enumerate(other_sizes):
            both = size + other_size
            mixed[both] = mixed[both] + comb(both, size) * many * other_many
    return mixed
