"""The definitions of the document, word for word and slow, to compare with."""

from itertools import combinations, product


def is_whole(value):
    return type(value) is int


def is_tree(value):
    if type(value) is not tuple or len(value) == 0 or len(value) > 10:
        return False
    for index, entry in enumerate(value):
        if index == 0:
            if entry is not None:
                return False
        elif not (is_whole(entry) and entry in range(index)):
            return False
    return True


def is_locale(tree, value):
    return is_whole(value) and value in range(len(tree))


def is_wishes(tree, value):
    if type(value) is not tuple:
        return False
    for wish in value:
        if not is_locale(tree, wish):
            return False
    return True


def is_text(value):
    return is_whole(value) and value in range(10)


def is_catalog(value):
    if type(value) is not tuple or len(value) != 3 or not is_tree(value[0]):
        return False
    if type(value[1]) is not str or (value[1] != "key" and value[1] != "bundle"):
        return False
    rows = value[2]
    if type(rows) is not tuple or len(rows) != len(value[0]):
        return False
    for row in rows:
        if type(row) is not tuple or len(row) not in (1, 2, 3, 4) or len(row) != len(rows[0]):
            return False
        for text in row:
            if not (text is None or is_text(text)):
                return False
    return True


def is_key(catalog, value):
    return is_whole(value) and value in range(len(catalog[2][0]))


def path(tree, locale):
    if locale == 0 or tree[locale] == 0:
        return (locale,)
    return (locale,) + path(tree, tree[locale])


def tongue(tree, locale):
    while locale != 0 and tree[locale] != 0:
        locale = tree[locale]
    return locale


def slim(tree, wishes):
    remaining = []
    for index, wish in enumerate(wishes):
        if not any(wish in path(tree, earlier) for earlier in wishes[:index]):
            remaining.append(wish)
    if remaining[-1:] == [0]:
        del remaining[-1]
    return tuple(remaining)


def walked(tree, wishes):
    """All steps of the way "key", with the repeated ones."""
    steps = []
    for wish in wishes:
        steps += path(tree, wish)
    return steps + [0]


def looked(tree, wishes):
    return tuple(dict.fromkeys(walked(tree, wishes)))


def entries(catalog):
    return [(locale, key) for locale, row in enumerate(catalog[2])
            for key, text in enumerate(row) if text is not None]


def is_skipped(catalog, locale):
    return not any(entry[0] in path(catalog[0], locale) for entry in entries(catalog))


def chosen(catalog, wishes):
    if catalog[1] == "bundle":
        for index, wish in enumerate(wishes):
            if not is_skipped(catalog, wish):
                return index
    return None


def place(catalog, wishes, key):
    if catalog[1] == "key":
        steps = walked(catalog[0], wishes)
    else:
        index = chosen(catalog, wishes)
        steps = walked(catalog[0], () if index is None else (wishes[index],))
    for locale in steps:
        if catalog[2][locale][key] is not None:
            return locale
    return None


def shown(catalog, wishes, key):
    locale = place(catalog, wishes, key)
    return None if locale is None else catalog[2][locale][key]


def shown_row(catalog, wishes):
    return tuple(shown(catalog, wishes, key) for key in range(len(catalog[2][0])))


def own_text(catalog, locale, key):
    for step in path(catalog[0], locale):
        if catalog[2][step][key] is not None:
            return catalog[2][step][key]
    return None


def shortened(catalog, wishes):
    goal = shown_row(catalog, wishes)
    for size in range(len(wishes) + 1):
        for found in product(range(len(catalog[0])), repeat=size):
            if shown_row(catalog, found) == goal:
                return found
    raise AssertionError("the list itself has this shown row")


def slim_lists(tree, longest):
    """All slim lists of at most longest wishes, fewer wishes first, then ascending."""
    found = []
    for size in range(min(longest, len(tree)) + 1):
        for wishes in product(range(len(tree)), repeat=size):
            if slim(tree, wishes) == wishes:
                found.append(wishes)
    return found


def all_trees(size):
    return [(None,) + rest for rest in product(*[range(index) for index in range(1, size)])]


def trees_up_to(size):
    return [tree for many in range(1, size + 1) for tree in all_trees(many)]


def lists_up_to(tree, longest):
    return [wishes for size in range(longest + 1)
            for wishes in product(range(len(tree)), repeat=size)]


def catalogs_of(tree, way, keys, texts):
    """All catalogs of the tree with so many keys and these texts, None among them or not."""
    many = len(tree) * keys
    found = []
    for cells in product(texts, repeat=many):
        rows = tuple(cells[at:at + keys] for at in range(0, many, keys))
        found.append((tree, way, rows))
    return found


def same_shown(catalog, other_catalog, lists):
    return all(shown_row(catalog, wishes) == shown_row(other_catalog, wishes) for wishes in lists)


def without(catalog, entry):
    rows = [list(row) for row in catalog[2]]
    rows[entry[0]][entry[1]] = None
    return (catalog[0], catalog[1], tuple(tuple(row) for row in rows))


def is_page(catalog, value):
    if type(value) is not tuple or len(value) == 0:
        return False
    return all(is_key(catalog, key) for key in value) and list(value) == sorted(set(value))


def mixes(catalog, wishes, page):
    places = [place(catalog, wishes, key) for key in page]
    return len({tongue(catalog[0], locale) for locale in places if locale is not None}) > 1


def first_mixing(catalog, page, lists):
    for wishes in lists:
        if mixes(catalog, wishes, page):
            return wishes
    return None


def is_door(tree, value):
    if type(value) is not tuple or len(value) != 2 or type(value[0]) is not str:
        return False
    word, told = value
    if word == "only" or word == "lift":
        return is_wishes(tree, told) and list(told) == sorted(set(told))
    if word == "swap":
        if type(told) is not tuple or not all(is_wishes(tree, pair) for pair in told):
            return False
        if not all(len(pair) == 2 for pair in told):
            return False
        return list(told) == sorted(told) and len({pair[0] for pair in told}) == len(told)
    if word == "head" or word == "pad":
        return is_wishes(tree, told)
    return False


def behind(tree, doors, wishes):
    """The wish list behind all doors."""
    for word, told in doors:
        if word == "only":
            wishes = [wish for wish in wishes if wish in told]
        elif word == "lift":
            found = [[step for step in path(tree, wish) if step in told] for wish in wishes]
            wishes = [steps[0] for steps in found if steps]
        elif word == "swap":
            wishes = [dict(told).get(wish, wish) for wish in wishes]
        elif word == "head":
            wishes = list(told) + list(wishes)
        else:
            wishes = list(wishes) + list(told)
    return tuple(wishes)


def doors_of(tree, longest):
    """All doors of the tree, those that have a wish list with at most so many wishes."""
    locales = range(len(tree))
    parts = [part for size in range(len(tree) + 1) for part in combinations(locales, size)]
    found = [(word, part) for word in ("only", "lift") for part in parts]
    for part in parts:
        for seconds in product(locales, repeat=len(part)):
            found.append(("swap", tuple(zip(part, seconds))))
    return found + [(word, wishes) for word in ("head", "pad")
                    for wishes in lists_up_to(tree, longest)]


def parted(tree, doors, other_doors, lists):
    """The first of the lists that becomes two lists with unlike slim lists, or None."""
    for wishes in lists:
        if slim(tree, behind(tree, doors, wishes)) != slim(tree, behind(tree, other_doors, wishes)):
            return wishes
    return None
