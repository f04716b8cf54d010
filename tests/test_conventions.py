"""Tests of the interface and of the conventions [2] that hold for everything."""

import inspect
import unittest

import samples
import wishedtongues.benches as benches
import wishedtongues.catalogs as catalogs
import wishedtongues.compare as compare
import wishedtongues.console as console
import wishedtongues.doors as doors
import wishedtongues.least as least
import wishedtongues.pages as pages
import wishedtongues.trees as trees
import wishedtongues.words as words
from samples import BUNDLED, CATALOGS, KEYED, TREE

INTERFACE = {
    trees: {
        "is_tree": "(value)",
        "is_locale": "(tree, value)",
        "is_wishes": "(tree, value)",
        "path": "(tree, locale)",
        "tongue": "(tree, locale)",
        "slim": "(tree, wishes)",
        "looked": "(tree, wishes)",
        "same_wishes": "(tree, wishes, other_wishes)",
        "count_slim": "(tree)",
        "slim_lists": "(tree, *, longest=2, most=1000)",
    },
    catalogs: {
        "is_catalog": "(value)",
        "entries": "(catalog)",
        "own_text": "(catalog, locale, key)",
        "is_skipped": "(catalog, locale)",
        "shown": "(catalog, wishes, key)",
        "place": "(catalog, wishes, key)",
        "chosen": "(catalog, wishes)",
        "shown_row": "(catalog, wishes)",
        "with_text": "(catalog, locale, key, text=None)",
        "laid_over": "(catalog, other_catalog)",
        "same_here": "(catalog, wishes, other_wishes)",
        "shortened": "(catalog, wishes)",
        "parting_catalog": "(tree, way, wishes, other_wishes)",
    },
    compare: {
        "alike": "(catalog, other_catalog)",
        "parting": "(catalog, other_catalog)",
        "within": "(catalog, other_catalog)",
        "lacking": "(catalog, other_catalog)",
    },
    least: {
        "needless": "(catalog)",
        "is_least": "(catalog)",
        "least": "(catalog)",
        "count_least": "(catalog)",
        "least_catalogs": "(catalog, *, most=1000)",
    },
    pages: {
        "mixes": "(catalog, wishes, page)",
        "mixing": "(catalog, page)",
        "fewest_added": "(catalog, page)",
        "completed": "(catalog, page, text)",
    },
    doors: {
        "is_door": "(tree, value)",
    },
    words: {
        "write_wishes": "(tree, wishes)",
        "read_wishes": "(tree, words)",
        "write_tree": "(tree)",
        "read_tree": "(words)",
        "write_catalog": "(catalog)",
        "read_catalog": "(words)",
        "write_door": "(tree, door)",
        "read_door": "(tree, words)",
    },
}

# What stands in the body of each class itself: of a property, and of an operator, the name alone.
DEEDS = {"put": "(self, locale, key, text)", "take": "(self, locale, key)", "twin": "(self)"}
CLASSES = {
    doors.Doors: {
        "__init__": "(self, tree, *doors)", "of": "(tree, doors)", "tree": None, "doors": None,
        "__call__": "(self, wishes)", "__len__": "(self)", "__getitem__": None, "__add__": None,
        "__eq__": None, "parting": "(self, b)", "same_here": "(self, b, catalog)",
        "behind": "(self, door)",
    },
    benches.Bench: {
        "__init__": "(self, catalog)", "catalog": None, "tree": None, "way": None,
        "show": "(self, wishes)", "mixing": "(self, page)", "undo": "(self)", "__len__": "(self)",
        "__getitem__": None, "__contains__": None, "__eq__": None, "begin": "(self)",
        "finish": "(self)", **DEEDS,
    },
    benches.LeanBench: {"__init__": "(self, catalog)", **DEEDS},
    benches.PageBench: {"__init__": "(self, catalog, *, page)", "page": None, **DEEDS},
    benches.LeanPageBench: {"__init__": "(self, catalog, *, page)", "page": None, **DEEDS},
    console.Console: {"__init__": "(self, catalog)", "execute": "(self, command)"},
}


def rebuilt(value):
    """An equal value that shares no tuple and no list with this one."""
    if type(value) in (tuple, list):
        return type(value)([rebuilt(part) for part in value])
    return value


def calls():
    """A call of each function for each sample: the function and its arguments."""
    found = []
    for catalog in CATALOGS:
        tree = catalog[0]
        low = len(tree) - 1
        wishes, other_wishes = (low, 0, 0, low), (0, low)
        found += [
            (trees.is_tree, (tree,)), (trees.is_locale, (tree, low)), (trees.is_wishes, (tree, wishes)),
            (trees.path, (tree, low)), (trees.tongue, (tree, low)), (trees.slim, (tree, wishes)),
            (trees.looked, (tree, wishes)), (trees.same_wishes, (tree, wishes, other_wishes)),
            (trees.count_slim, (tree,)), (catalogs.is_catalog, (catalog,)),
            (catalogs.entries, (catalog,)), (catalogs.own_text, (catalog, low, 0)),
            (catalogs.is_skipped, (catalog, low)), (catalogs.shown, (catalog, wishes, 0)),
            (catalogs.place, (catalog, wishes, 0)), (catalogs.chosen, (catalog, wishes)),
            (catalogs.shown_row, (catalog, wishes)), (catalogs.with_text, (catalog, low, 0, 3)),
            (catalogs.with_text, (catalog, low, 0)), (catalogs.laid_over, (catalog, catalog)),
            (catalogs.same_here, (catalog, wishes, other_wishes)),
            (catalogs.shortened, (catalog, wishes)),
            (catalogs.parting_catalog, (tree, catalog[1], wishes, other_wishes)),
        ]
        page = tuple(range(len(catalog[2][0])))
        other_catalog = catalogs.with_text(catalog, low, 0, 9)
        found += [
            (compare.alike, (catalog, other_catalog)), (compare.parting, (catalog, other_catalog)),
            (compare.within, (catalog, other_catalog)), (compare.lacking, (catalog, other_catalog)),
            (compare.parting, (catalog, catalog)), (compare.lacking, (catalog, catalog)),
            (least.needless, (catalog,)), (least.is_least, (catalog,)), (least.least, (catalog,)),
            (least.count_least, (catalog,)), (listed_least, (catalog,)),
            (pages.mixes, (catalog, wishes, page)), (pages.mixing, (catalog, page)),
            (pages.fewest_added, (catalog, page)), (pages.completed, (catalog, page, 8)),
        ]
        door = ("swap", ((0, low),))
        found += [
            (doors.is_door, (tree, door)), (words.write_wishes, (tree, wishes)),
            (words.read_wishes, (tree, words.write_wishes(tree, wishes))), (words.write_tree, (tree,)),
            (words.read_tree, (words.write_tree(tree),)), (words.write_catalog, (catalog,)),
            (words.read_catalog, (words.write_catalog(catalog),)), (words.write_door, (tree, door)),
            (words.read_door, (tree, words.write_door(tree, door))),
            (of_doors, (tree, (door, ("pad", (low,))), wishes)), (of_bench, (catalog, low)),
            (of_console, (catalog, ("show -", "put a 0 5", "least", "try take a 0", "undo"))),
        ]
    return found


def of_doors(tree, row, wishes):
    """What rows of doors answer."""
    made, other = doors.Doors.of(tree, row), doors.Doors(tree)
    return [made(wishes), made.doors, made.tree, made.parting(other), (other + made).doors,
            made.same_here(other, (tree, "key", ((1,),) * len(tree)))]


def of_bench(catalog, locale):
    """What a bench answers on its way."""
    bench = benches.Bench(catalog)
    return [bench.put(locale, 0, 4), bench[locale], bench.show((locale,)), bench.mixing((0,)),
            bench.take(locale, 0), bench.twin().undo(), bench.catalog, len(bench), bench.undo()]


def of_console(catalog, commands):
    """What a console answers to one command behind the other."""
    made = console.Console(catalog)
    return [made.execute(command) for command in commands]


def listed_least(catalog):
    return list(least.least_catalogs(catalog))


class Interface(unittest.TestCase):
    def test_names_arguments_and_files(self):
        for module, names in INTERFACE.items():
            for name, signature in names.items():
                function = getattr(module, name)
                self.assertTrue(inspect.isfunction(function), name)
                self.assertEqual(str(inspect.signature(function)), signature, name)
                self.assertEqual(function.__module__, module.__name__, name)
                self.assertEqual(function.__name__, name)

    def test_one_argument_more_or_less_is_refused(self):
        for module, names in INTERFACE.items():
            for name in names:
                for given in ((), (1,) * 6):
                    with self.assertRaises(TypeError):
                        getattr(module, name)(*given)

    def test_classes_and_what_stands_in_their_bodies(self):
        for made, names in CLASSES.items():
            for name, signature in names.items():
                self.assertIn(name, vars(made), made)
                found = vars(made)[name]
                if name in ("tree", "doors", "catalog", "way", "page"):
                    self.assertIsInstance(found, property, name)
                elif signature is not None:
                    self.assertEqual(str(inspect.signature(getattr(made, name))), signature, name)
        self.assertIsInstance(vars(doors.Doors)["of"], staticmethod)
        self.assertEqual([made.__module__ for made in CLASSES], (
            ["wishedtongues.doors"] + ["wishedtongues.benches"] * 4 + ["wishedtongues.console"]))

    def test_all_that_the_bodies_have_beside_is_private(self):
        for made, names in CLASSES.items():
            for name in vars(made):
                self.assertTrue(name in names or name[0] == "_", (made, name))


class Conventions(unittest.TestCase):
    def test_kinds_of_results(self):
        kinds = {
            "is_tree": bool, "is_locale": bool, "is_wishes": bool, "path": tuple, "tongue": int,
            "slim": tuple, "looked": tuple, "same_wishes": bool, "count_slim": int,
            "is_catalog": bool, "entries": list, "own_text": int, "is_skipped": bool,
            "shown": int, "place": int, "chosen": int, "shown_row": tuple, "with_text": tuple,
            "laid_over": tuple, "same_here": bool, "shortened": tuple, "parting_catalog": tuple,
            "alike": bool, "parting": tuple, "within": bool, "lacking": tuple, "needless": list,
            "is_least": bool, "least": tuple, "count_least": int, "listed_least": list,
            "mixes": bool, "mixing": tuple, "fewest_added": int, "completed": tuple,
            "is_door": bool, "write_wishes": str, "read_wishes": tuple, "write_tree": str,
            "read_tree": tuple, "write_catalog": str, "read_catalog": tuple, "write_door": str,
            "read_door": tuple, "of_doors": list, "of_bench": list, "of_console": list,
        }
        may_be_none = ("own_text", "shown", "place", "chosen", "parting_catalog", "parting",
                       "lacking", "mixing")
        seen = {}
        for function, given in calls():
            got, name = function(*given), function.__name__
            if got is not None or name not in may_be_none:
                self.assertIs(type(got), kinds[name], (name, given))
            seen.setdefault(name, []).append(got)
        for name in may_be_none:
            self.assertIn(None, seen[name], name)
            self.assertNotEqual([got for got in seen[name] if got is not None], [], name)

    def test_new_catalogs_are_catalogs(self):
        for catalog in CATALOGS:
            for got in (
                catalogs.with_text(catalog, 0, 0, 9), catalogs.with_text(catalog, 0, 0),
                catalogs.laid_over(catalog, catalog), least.least(catalog),
                pages.completed(catalog, (0,), 9),
            ):
                self.assertTrue(catalogs.is_catalog(got))

    def test_equal_calls_return_equal_results(self):
        told = [repr(function(*given)) for function, given in calls()]
        again = [repr(function(*rebuilt(given))) for function, given in calls()]
        self.assertEqual(told, again)
        backwards = [repr(function(*given)) for function, given in reversed(calls())]
        self.assertEqual(told, backwards[::-1])

    def test_arguments_are_not_modified(self):
        for function, given in calls():
            before = repr(given)
            function(*given)
            self.assertEqual(repr(given), before, function)

    def test_lists_that_are_asked_about_are_not_modified(self):
        for value in samples.any_values():
            before = repr(value)
            trees.is_tree(value)
            trees.is_locale(TREE, value)
            trees.is_wishes(TREE, value)
            catalogs.is_catalog(value)
            doors.is_door(TREE, value)
            doors.is_door(TREE, ("swap", value))
            self.assertIs(value in benches.Bench(samples.NO_ENTRIES), False)
            self.assertIs(doors.Doors((None, 0, 0, 0)) == value, False)
            self.assertIs(benches.Bench(samples.NO_ENTRIES) == value, False)
            self.assertEqual(repr(value), before)

    def test_a_changed_result_changes_nothing(self):
        for catalog in (KEYED, BUNDLED):
            got = catalogs.entries(catalog)
            got.append((9, 9))
            got[0] = None
            self.assertEqual(
                catalogs.entries(catalog), [(0, 0), (0, 1), (1, 0), (2, 1), (3, 1)])
            got = least.needless(catalog)
            got.append((9, 9))
            self.assertEqual(least.needless(catalog), [])

    def test_a_list_that_is_changed_later(self):
        rows = [(5, 6), (1, None), (None, 2), (None, 3)]
        catalog = (TREE, "key", tuple(rows))
        first = catalogs.with_text(catalog, 0, 0, 1)
        rows.clear()
        self.assertEqual(first[2][1:], ((1, None), (None, 2), (None, 3)))

    def test_rows_of_doors_do_not_change_with_a_list(self):
        row = [("only", (1,)), ("pad", (2,))]
        made = doors.Doors(TREE, *row)
        row.clear()
        self.assertEqual(made.doors, (("only", (1,)), ("pad", (2,))))


if __name__ == "__main__":
    unittest.main()
