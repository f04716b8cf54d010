"""Valid values, and values of all other kinds and forms."""

import wishedtongues.errors as errors
from wishedtongues.benches import Bench, LeanBench, LeanPageBench, PageBench
from wishedtongues.console import Console
from wishedtongues.doors import Doors

TREE = (None, 0, 1, 0)
ROWS = ((5, 6), (1, None), (None, 2), (None, 3))
KEYED = (TREE, "key", ROWS)
BUNDLED = (TREE, "bundle", ROWS)

FLAT_TEN = (None,) + (0,) * 9
CHAIN_TEN = (None,) + tuple(range(9))
MIXED_TEN = (None, 0, 0, 1, 1, 2, 4, 6, 0, 8)

FOUR_KEYS = (
    (None, 0, 0, 2, 3, 0),
    "key",
    ((None, 1, None, 9), (2, None, None, None), (3, None, 4, None),
     (None, 5, None, None), (6, None, None, None), (None, None, 7, 8)),
)
FOUR_KEYS_BUNDLED = (FOUR_KEYS[0], "bundle", FOUR_KEYS[2])
EMPTY_ROOT = ((None, 0, 1, 0), "key", ((None,), (None,), (4,), (3,)))
ROOT_ALONE = ((None, 0, 1, 0), "bundle", ((3, None), (None, None), (None, None), (None, None)))
NO_ENTRIES = ((None, 0, 1), "key", ((None, None), (None, None), (None, None)))
ONE_LOCALE = ((None,), "bundle", ((7,),))
TEN_LOCALES = (MIXED_TEN, "key", tuple((locale,) if locale else (None,) for locale in range(10)))
LOW_ONLY = (TREE, "bundle", ((None, None), (None, None), (None, None), (None, 3)))

CATALOGS = (
    KEYED, BUNDLED, FOUR_KEYS, FOUR_KEYS_BUNDLED, EMPTY_ROOT, ROOT_ALONE,
    NO_ENTRIES, ONE_LOCALE, TEN_LOCALES, LOW_ONLY,
) + tuple((catalog[0], {"key": "bundle", "bundle": "key"}[catalog[1]], catalog[2])
          for catalog in (EMPTY_ROOT, ROOT_ALONE, NO_ENTRIES, ONE_LOCALE, TEN_LOCALES, LOW_ONLY))


def nested(kind, depth):
    """A value within so many lists or tuples."""
    value = 0
    for _ in range(depth):
        value = kind([value])
    return value


def objects():
    """Objects of the package."""
    return [
        errors.WishError("1"), errors.InvalidTree("key"), errors.Mixed((1,)),
        errors.InvalidWords(0), errors.InvalidCommand(""),
        Doors(TREE), Doors((None, 0), ("only", (0,)), ("pad", (1, 1))), Bench(KEYED), LeanBench(BUNDLED),
        PageBench(BUNDLED, page=(0,)), LeanPageBench(ONE_LOCALE, page=(0,)), Console(KEYED),
    ]


def any_values():
    """Values of all kinds that the document names, new ones at each call."""
    return [
        None, True, False, -10 ** 31 + 1, -11, -10, -2, -1, 0, 1, 2, 3, 4, 5, 6, 9, 10, 11, 12,
        999, 1000, 1001, 2 ** 64, 10 ** 31 - 1,
        "", "0", "1", "a", "key", "bundle", "Key", "key ", "keys", "None", "k\ne\ny", "x" * 4000,
        (), [], (None,), [None], (0,), [0], (1,), [1], (True,), (False,), (-1,), (4,), ("0",),
        (None, 0), [None, 0], (None, False), (None, 1), (0, 0), (1, 2), [1, 2], (1, None), (3, 2, 1),
        ((),), ([],), (None, (0,)), ((None,), "key", ((1,),)), [(None,), "key", ((1,),)],
        ("key", (None,), ((1,),)), ((None,), "key"), (0,) * 2000, [0] * 2000, (None,) * 2000,
        (None,) + (0,) * 1999, ("x",) * 2000, tuple(range(2000)),
        nested(tuple, 30), nested(list, 30), (nested(list, 29), nested(tuple, 29)),
        TREE, list(TREE), ROWS, list(ROWS), KEYED, list(KEYED), (KEYED,), BUNDLED, FLAT_TEN,
        FLAT_TEN + (0,), CHAIN_TEN + (9,),
        "only", ("only", ()), ("lift", (0, 1)), ("swap", ((0, 1), (1, 0))), ["head", (1,)], ("pad", [1]),
        (("only", ()),), "tree a b a", "key tree rows 5-", "a b", "-", "swap a>b", "undo", "try least",
    ] + objects() + [(one,) for one in objects()] + [[one, one] for one in objects()[5:]]


def changed(value):
    """The value with a part of it left out, doubled, exchanged or replaced, at any depth."""
    if type(value) not in (tuple, list):
        return changed_part(value)
    kind = type(value)
    other_kind = list if kind is tuple else tuple
    parts = list(value)
    found = [other_kind(parts), kind(parts[::-1]), (value,), [value], kind(parts + [None])]
    for at in range(len(parts)):
        ahead, part, behind = parts[:at], parts[at], parts[at + 1:]
        found.append(kind(ahead + behind))
        found.append(kind(ahead + [part, part] + behind))
        found.append(kind(ahead[:-1] + [part] + ahead[-1:] + behind))
        found += [kind(ahead + [new] + behind) for new in changed(part)]
    return found


def changed_part(value):
    """Other values in the place of one that has no parts."""
    found = [None, True, False, -1, 0, 1, 9, 10, 10 ** 30, "0", "key", "bundle", "", (), [], (0,), [None]]
    if type(value) is int:
        found += [value - 1, value + 1, -value, str(value), (value,), [value], bool(value)]
    if type(value) is str:
        found += [value.upper(), value + " ", value[:-1], list(value), (value,), [value]]
    return found + [errors.InvalidTree("0")]
