"""Tests of wishedtongues.benches [17]."""

import random
import unittest
from itertools import product

import reference
import samples
from samples import BUNDLED, CATALOGS, KEYED, NO_ENTRIES, TREE
from wishedtongues.benches import Bench, LeanBench, LeanPageBench, PageBench
from wishedtongues.catalogs import with_text
from wishedtongues.doors import Doors
from wishedtongues.errors import (
    InvalidCatalog, InvalidKey, InvalidLocale, InvalidPage, InvalidText, InvalidWishes, Mixed,
    Needless, NoBlock, NothingThere, NothingToUndo, WishError,
)

FORK = (None, 0, 0)
# Nothing is needless in these, and no page of theirs can be mixed.
WHOLE = (FORK, "key", ((5, 6), (1, 2), (3, 4)))
WHOLE_BUNDLED = (FORK, "bundle", WHOLE[2])
ROOT_ONLY = (FORK, "key", ((5, 6), (None, None), (None, None)))
ROOT_ONLY_BUNDLED = (FORK, "bundle", ROOT_ONLY[2])

CLASSES = (Bench, LeanBench, PageBench, LeanPageBench)
PAGED = (PageBench, LeanPageBench)
LEAN = (LeanBench, LeanPageBench)


def made(kind, catalog, page=(0,)):
    """A bench of this class."""
    return kind(catalog, page=page) if kind in PAGED else kind(catalog)


def benches(catalog, page=(0,)):
    """A bench of each class."""
    return [made(kind, catalog, page) for kind in CLASSES]


def undone(bench):
    """The words of all that the bench can take back, and its catalogs on the way."""
    twin = bench.twin()
    found = []
    while True:
        try:
            found.append((twin.undo(), twin.catalog))
        except NothingToUndo:
            return found


def state_of(bench):
    return (bench.catalog, undone(bench))


class Reading(unittest.TestCase):
    def test_classes(self):
        self.assertEqual(Bench.__bases__, (object,))
        self.assertTrue(issubclass(LeanBench, Bench) and issubclass(PageBench, Bench))
        self.assertFalse(issubclass(PageBench, LeanBench) or issubclass(LeanBench, PageBench))
        self.assertTrue(issubclass(LeanPageBench, LeanBench) and issubclass(LeanPageBench, PageBench))

    def test_properties(self):
        for catalog in CATALOGS:
            for bench in benches(catalog):
                self.assertEqual(bench.catalog, catalog)
                self.assertEqual((bench.tree, bench.way), catalog[:2])
                for name in ("catalog", "tree", "way"):
                    with self.assertRaises(AttributeError):
                        setattr(bench, name, None)
        for kind in PAGED:
            for page in ((0,), (1,), (0, 1)):
                self.assertEqual(made(kind, WHOLE, page).page, page)

    def test_show(self):
        for catalog in CATALOGS:
            for bench in benches(catalog):
                for wishes in reference.lists_up_to(catalog[0], 1) + [(0, 0), (len(catalog[0]) - 1, 0)]:
                    self.assertEqual(bench.show(wishes), reference.shown_row(catalog, wishes))
                    self.assertEqual(bench.show(wishes=wishes), bench.show(wishes))

    def test_mixing(self):
        for catalog in CATALOGS:
            lists = reference.lists_up_to(catalog[0], 2)
            for bench in benches(catalog):
                for page in {(0,), tuple(range(len(catalog[2][0])))}:
                    want = reference.first_mixing(catalog, page, lists)
                    self.assertEqual(bench.mixing(page), want)
                    self.assertEqual(bench.mixing(page=page), want)

    def test_length_rows_and_entries(self):
        for catalog in CATALOGS:
            for bench in benches(catalog):
                entries = reference.entries(catalog)
                self.assertEqual(len(bench), len(entries))
                for locale, row in enumerate(catalog[2]):
                    self.assertEqual(repr(bench[locale]), repr(row))
                    for key in range(5):
                        self.assertIs((locale, key) in bench, (locale, key) in entries)
                        self.assertIs((locale, key) not in bench, (locale, key) not in entries)

    def test_any_value_in_a_bench(self):
        everything = ((None, 0), "key", ((1, 2), (3, 4)))
        for bench in benches(everything):
            for value in samples.any_values() + samples.changed((1, 1)) + [(0, 0, 0), ((0, 0),), bench]:
                right = (type(value) is tuple and len(value) == 2
                         and all(type(part) is int and part in (0, 1) for part in value))
                self.assertIs(value in bench, right, value)

    def test_not_iterated_over(self):
        for bench in benches(KEYED) + benches(NO_ENTRIES):
            for call in (iter, list, tuple, sorted, lambda one: [row for row in one]):
                with self.assertRaises(TypeError):
                    call(bench)


class Deeds(unittest.TestCase):
    def test_put(self):
        for bench in benches(KEYED):
            self.assertIs(bench.put(3, 0, 7), None)
            self.assertEqual(bench.catalog, with_text(KEYED, 3, 0, 7))
            self.assertEqual(repr(bench.put(3, 0, 0)), "7")
            self.assertEqual(repr(bench.put(text=8, key=0, locale=3)), "0")
            self.assertEqual(bench[3], (8, 3))
            self.assertEqual(len(bench), 6)
            self.assertEqual(bench.show((3, 1)), (8, 3))

    def test_take(self):
        for bench in benches(KEYED):
            self.assertEqual(repr(bench.take(2, 1)), "2")
            self.assertEqual(bench.catalog, with_text(KEYED, 2, 1))
            self.assertEqual(repr(bench.take(key=0, locale=0)), "5")
            self.assertEqual(bench[0], (None, 6))
            self.assertEqual(len(bench), 3)
            with self.assertRaises(NothingThere):
                bench.take(2, 1)
            self.assertEqual(len(bench), 3)

    def test_undo_in_a_row(self):
        for bench in benches(KEYED):
            bench.put(3, 0, 7)
            bench.take(1, 0)
            bench.put(1, 0, 9)
            for word, catalog in (
                ("put", with_text(with_text(KEYED, 3, 0, 7), 1, 0)),
                ("take", with_text(KEYED, 3, 0, 7)),
                ("put", KEYED),
            ):
                self.assertEqual(bench.undo(), word)
                self.assertEqual(bench.catalog, catalog)
            with self.assertRaises(NothingToUndo):
                bench.undo()
            self.assertEqual(bench.catalog, KEYED)

    def test_a_put_of_the_same_text_is_a_deed(self):
        for bench in benches(KEYED):
            self.assertEqual(bench.put(2, 1, 2), 2)
            self.assertEqual(bench.put(2, 1, 2), 2)
            self.assertEqual([word for word, _ in undone(bench)], ["put", "put"])
            self.assertEqual((bench.undo(), bench.undo()), ("put", "put"))
            with self.assertRaises(NothingToUndo):
                bench.undo()

    def test_undo_between_deeds(self):
        for bench in benches(KEYED):
            bench.put(3, 0, 7)
            self.assertEqual(bench.undo(), "put")
            bench.take(3, 1)
            self.assertEqual(bench.catalog, with_text(KEYED, 3, 1))
            self.assertEqual(bench.undo(), "take")
            with self.assertRaises(NothingToUndo):
                bench.undo()

    def test_two_benches_of_one_catalog(self):
        for bench, other in zip(benches(KEYED), benches(KEYED)):
            bench.put(3, 0, 7)
            self.assertEqual(other.catalog, KEYED)
            with self.assertRaises(NothingToUndo):
                other.undo()

    def test_the_catalog_that_was_read_does_not_change(self):
        for bench in benches(KEYED):
            kept = bench.catalog
            bench.put(3, 0, 7)
            self.assertEqual(kept, KEYED)

    def test_a_deed_of_a_wrong_argument_is_none(self):
        for bench in benches(KEYED):
            for deed in (lambda: bench.put(4, 0, 1), lambda: bench.put(0, 2, 1), lambda: bench.put(0, 0, 10),
                         lambda: bench.take(4, 0), lambda: bench.take(0, 2), lambda: bench.take(3, 0)):
                with self.assertRaises(WishError):
                    deed()
            self.assertEqual(state_of(bench), (KEYED, []))


class Blocks(unittest.TestCase):
    def test_begin_and_finish_return_none(self):
        for bench in benches(KEYED):
            self.assertIs(bench.begin(), None)
            self.assertIs(bench.finish(), None)
            self.assertEqual(state_of(bench), (KEYED, []))

    def test_no_block(self):
        for bench in benches(KEYED):
            with self.assertRaises(NoBlock):
                bench.finish()
            bench.put(3, 0, 7)
            with self.assertRaises(NoBlock):
                bench.finish()
            self.assertEqual(len(undone(bench)), 1)
            bench.begin()
            bench.finish()
            with self.assertRaises(NoBlock):
                bench.finish()
            self.assertEqual(len(undone(bench)), 1)

    def test_finish_behind_puts_and_takes_and_undos(self):
        for bench in benches(KEYED):
            bench.put(3, 0, 7)
            before = state_of(bench)
            bench.begin()
            bench.put(1, 1, 8)
            bench.take(0, 0)
            bench.undo()
            bench.put(2, 0, 3)
            self.assertEqual(bench.catalog[2], ((5, 6), (1, 8), (3, 2), (7, 3)))
            bench.finish()
            self.assertEqual(state_of(bench), before)
            self.assertEqual(bench.undo(), "put")
            self.assertEqual(bench.catalog, KEYED)

    def test_finish_behind_nothing(self):
        for bench in benches(KEYED):
            bench.take(3, 1)
            bench.begin()
            bench.finish()
            self.assertEqual(state_of(bench), (with_text(KEYED, 3, 1), [("take", KEYED)]))

    def test_undo_inside_takes_back_only_what_was_done_inside(self):
        for bench in benches(KEYED):
            bench.put(3, 0, 7)
            bench.begin()
            with self.assertRaises(NothingToUndo):
                bench.undo()
            bench.take(3, 0)
            self.assertEqual(bench.undo(), "take")
            with self.assertRaises(NothingToUndo):
                bench.undo()
            self.assertEqual(bench.catalog, with_text(KEYED, 3, 0, 7))
            bench.finish()
            self.assertEqual(bench.undo(), "put")

    def test_blocks_in_blocks(self):
        for bench in benches(KEYED):
            bench.put(3, 0, 1)
            first = state_of(bench)
            bench.begin()
            bench.put(3, 0, 2)
            second = state_of(bench)
            bench.begin()
            with self.assertRaises(NothingToUndo):
                bench.undo()
            bench.put(3, 0, 3)
            bench.take(1, 0)
            bench.begin()
            bench.begin()
            bench.take(0, 1)
            bench.finish()
            with self.assertRaises(NothingToUndo):
                bench.undo()
            bench.finish()
            self.assertEqual(bench.undo(), "take")
            self.assertEqual(bench[3], (3, 3))
            bench.finish()
            self.assertEqual(state_of(bench), second)
            self.assertEqual(bench.undo(), "put")
            with self.assertRaises(NothingToUndo):
                bench.undo()
            bench.finish()
            self.assertEqual(state_of(bench), first)
            with self.assertRaises(NoBlock):
                bench.finish()

    def test_twenty_blocks_and_two_hundred_deeds(self):
        for bench in benches(WHOLE, (0, 1)):
            for at in range(20):
                bench.begin()
                for text in range(10):
                    bench.put(1, 0, text)
            self.assertEqual(len(undone(bench)), 200)
            for at in range(20, 0, -1):
                self.assertEqual(len(undone(bench)), at * 10)
                bench.finish()
            self.assertEqual(state_of(bench), (WHOLE, []))


class Twins(unittest.TestCase):
    def test_of_the_same_class(self):
        for bench in benches(KEYED):
            twin = bench.twin()
            self.assertIs(type(twin), type(bench))
            self.assertIsNot(twin, bench)
            self.assertEqual(state_of(twin), (KEYED, []))
        for kind in PAGED:
            self.assertEqual(made(kind, WHOLE, (0, 1)).twin().page, (0, 1))

    def test_independent(self):
        for bench in benches(KEYED):
            early = bench.twin()
            bench.put(3, 0, 7)
            late = bench.twin()
            bench.take(3, 0)
            early.take(0, 0)
            late.put(0, 0, 9)
            self.assertEqual(state_of(early), (with_text(KEYED, 0, 0), [("take", KEYED)]))
            put = with_text(KEYED, 3, 0, 7)
            self.assertEqual(state_of(late), (with_text(put, 0, 0, 9), [("put", put), ("put", KEYED)]))
            self.assertEqual(state_of(bench), (KEYED, [("take", put), ("put", KEYED)]))

    def test_outside_of_all_blocks(self):
        for bench in benches(KEYED):
            bench.put(3, 0, 7)
            bench.begin()
            bench.take(3, 1)
            bench.begin()
            bench.take(0, 0)
            bench.undo()
            twin = bench.twin()
            with self.assertRaises(NoBlock):
                twin.finish()
            self.assertEqual([twin.undo(), twin.undo()], ["take", "put"])
            with self.assertRaises(NothingToUndo):
                twin.undo()
            self.assertEqual(twin.catalog, KEYED)
            with self.assertRaises(NothingToUndo):
                bench.undo()
            bench.finish()
            self.assertEqual(bench.undo(), "take")
            bench.finish()
            self.assertEqual(bench.undo(), "put")

    def test_a_block_of_a_twin_is_its_own(self):
        for bench in benches(KEYED):
            twin = bench.twin()
            twin.begin()
            with self.assertRaises(NoBlock):
                bench.finish()
            twin.finish()

    def test_a_twin_refuses_the_same(self):
        for way in ("key", "bundle"):
            catalog = (FORK, way, ((5, 6), (None, None), (None, None)))
            self.assertIs(Bench(catalog).twin().put(1, 0, 5), None)
            with self.assertRaises(Needless):
                LeanBench(catalog).twin().put(1, 0, 5)
            for kind in PAGED:
                with self.assertRaises(Mixed):
                    made(kind, catalog, (0, 1)).twin().put(1, 0, 5)
            with self.assertRaises(Needless):
                made(LeanPageBench, catalog, (0,)).twin().put(1, 0, 5)


class Refused(unittest.TestCase):
    def assert_mixed(self, wishes, deed):
        with self.assertRaises(Mixed) as caught:
            deed()
        self.assertEqual(repr(caught.exception.wishes), repr(wishes))

    def test_a_needless_put(self):
        for catalog in (ROOT_ONLY, ROOT_ONLY_BUNDLED):
            for bench in (LeanBench(catalog), LeanPageBench(catalog, page=(0,))):
                with self.assertRaises(Needless):
                    bench.put(1, 0, 5)
                self.assertEqual(state_of(bench), (catalog, []))
                self.assertIs(bench.put(1, 0, 4), None)
                with self.assertRaises(Needless):
                    bench.put(1, 0, 5)
                self.assertEqual(state_of(bench), (with_text(catalog, 1, 0, 4), [("put", catalog)]))
            for bench in (Bench(catalog), PageBench(catalog, page=(0,))):
                self.assertIs(bench.put(1, 0, 5), None)

    def test_the_entry_that_was_put_is_asked_about_alone(self):
        # The entry of 2 is needless behind this put, but it is not what was put.
        catalog = (TREE, "key", ((0,), (1,), (2,), (None,)))
        for bench in (LeanBench(catalog), LeanPageBench(catalog, page=(0,))):
            self.assertEqual(bench.put(1, 0, 2), 1)
            self.assertEqual(bench.catalog[2], ((0,), (2,), (2,), (None,)))
            with self.assertRaises(Needless):
                bench.put(2, 0, 2)
            self.assertEqual(bench.put(2, 0, 3), 2)

    def test_the_first_catalog_may_have_needless_entries(self):
        catalog = (FORK, "key", ((5,), (5,), (5,)))
        for bench in (LeanBench(catalog), LeanPageBench(catalog, page=(0,))):
            with self.assertRaises(Needless):
                bench.put(1, 0, 5)
            self.assertEqual(bench.put(1, 0, 6), 5)
            self.assertEqual(bench.take(1, 0), 6)
            self.assertEqual(bench.catalog[2], ((5,), (None,), (5,)))

    def test_a_take_is_never_refused_as_needless(self):
        # Without the entry of 1 that of 2 is needless.
        catalog = (FORK, "key", ((5,), (6,), (5,)))
        for bench in (LeanBench(catalog), LeanPageBench(catalog, page=(0,))):
            self.assertEqual(bench.take(1, 0), 6)
            self.assertEqual(bench.catalog[2], ((5,), (None,), (5,)))

    def test_a_page_that_can_be_mixed_from_the_first(self):
        for kind in PAGED:
            for catalog, page, wishes in (
                (KEYED, (0, 1), (1,)), (BUNDLED, (0, 1), (1,)),
                ((FORK, "key", ((None, None), (1, None), (None, 2))), (0, 1), (1, 2)),
                ((FORK, "bundle", ((1, 2), (None, None), (None, 2))), (0, 1), (2,)),
            ):
                self.assert_mixed(wishes, lambda: kind(catalog, page=page))
                self.assertEqual(kind(catalog, page=(0,)).catalog, catalog)

    def test_a_put_behind_which_the_page_can_be_mixed(self):
        for kind in PAGED:
            for catalog in (ROOT_ONLY, ROOT_ONLY_BUNDLED):
                bench = kind(catalog, page=(0, 1))
                self.assert_mixed((2,), lambda: bench.put(2, 1, 4))
                self.assertEqual(state_of(bench), (catalog, []))
                self.assertEqual(bench.put(0, 1, 4), 6)
            bench = kind((FORK, "key", ((None, None), (1, None), (None, None))), page=(0, 1))
            self.assert_mixed((1, 2), lambda: bench.put(2, 1, 4))
            self.assertIs(bench.put(1, 1, 4), None)
        for bench in (Bench(ROOT_ONLY), LeanBench(ROOT_ONLY)):
            self.assertIs(bench.put(2, 1, 4), None)

    def test_a_take_behind_which_the_page_can_be_mixed(self):
        for kind in PAGED:
            for catalog in (WHOLE, WHOLE_BUNDLED):
                bench = kind(catalog, page=(0, 1))
                self.assert_mixed((2,), lambda: bench.take(2, 0))
                self.assert_mixed((1,), lambda: bench.take(1, 1))
                self.assertEqual(state_of(bench), (catalog, []))
        for bench in (Bench(WHOLE), LeanBench(WHOLE), LeanPageBench(WHOLE, page=(1,))):
            self.assertEqual(bench.take(2, 0), 3)

    def test_the_list_is_what_mixing_would_return(self):
        for kind in PAGED:
            for catalog in (WHOLE, WHOLE_BUNDLED, ROOT_ONLY, ROOT_ONLY_BUNDLED):
                lists = reference.lists_up_to(FORK, 2)
                for locale, key in product(range(3), range(2)):
                    bench = kind(catalog, page=(0, 1))
                    for text, deed in ((None, lambda: bench.take(locale, key)), (9, lambda: bench.put(locale, key, 9))):
                        behind = with_text(catalog, locale, key, text)
                        wishes = reference.first_mixing(behind, (0, 1), lists)
                        if wishes is not None and behind != catalog:
                            self.assert_mixed(wishes, deed)

    def test_mixed_goes_ahead_of_needless(self):
        for catalog in (ROOT_ONLY, ROOT_ONLY_BUNDLED):
            with self.assertRaises(Needless):
                LeanBench(catalog).put(1, 0, 5)
            for kind in PAGED:
                self.assert_mixed((1,), lambda: kind(catalog, page=(0, 1)).put(1, 0, 5))
            with self.assertRaises(Needless):
                LeanPageBench(catalog, page=(0,)).put(1, 0, 5)

    def test_behind_all_other_errors(self):
        for bench in (LeanBench(ROOT_ONLY), LeanPageBench(ROOT_ONLY, page=(0, 1))):
            for given, error in (((3, 0, 5), InvalidLocale), ((1, 2, 5), InvalidKey), ((1, 0, None), InvalidText)):
                with self.assertRaises(error):
                    bench.put(*given)
        for kind in PAGED:
            with self.assertRaises(NothingThere):
                kind(ROOT_ONLY, page=(0, 1)).take(1, 0)

    def test_what_the_root_refuses(self):
        # Behind the take each locale would fall back to nothing: no page is mixed.
        for kind in PAGED:
            bench = kind(ROOT_ONLY, page=(0, 1))
            self.assertEqual((bench.take(0, 0), bench.take(0, 1)), (5, 6))
            self.assertEqual(len(bench), 0)

    def test_taking_back_is_never_refused(self):
        # The entries of 1 and 2 are needless from the first.
        catalog = (FORK, "key", ((5,), (5,), (5,)))
        for kind in LEAN:
            bench = made(kind, catalog)
            bench.begin()
            bench.take(1, 0)
            bench.put(1, 0, 7)
            self.assertEqual((bench.undo(), bench.undo()), ("put", "take"))
            self.assertEqual(bench.catalog, catalog)
            bench.take(1, 0)
            bench.finish()
            self.assertEqual(state_of(bench), (catalog, []))
            with self.assertRaises(Needless):
                bench.put(1, 0, 5)


class Equal(unittest.TestCase):
    def test_between_classes(self):
        rows = ((5,), (6,), (None,))
        alike, other = (FORK, "key", rows), (FORK, "key", ((5,), (None,), (6,)))
        for one, two in product(benches(alike), benches((FORK, "key", ((5,), (6,), (None,))))):
            self.assertIs(one == two, True)
            self.assertIs(one != two, False)
        for one, two in product(benches(alike), benches(other)):
            self.assertIs(one == two, False)
            self.assertIs(one != two, True)

    def test_alike_catalogs_that_differ(self):
        for way, rows, other_rows in (
            ("key", ((5,), (6,), (None,)), ((5,), (6,), (6,))),
            ("key", ((5,), (None,), (5,)), ((5,), (5,), (None,))),
            ("bundle", ((5, 6), (5, None), (7, None)), ((5, 6), (None, 6), (7, 6))),
        ):
            tree = (None, 0, 1) if rows[1] == (6,) else FORK
            for one, two in product(benches((tree, way, rows)), benches((tree, way, other_rows))):
                self.assertIs(one == two, True)
                self.assertIs(one != two, False)

    def test_not_of_one_kind(self):
        for catalog, other_catalog in (
            (KEYED, BUNDLED), (((None,), "key", ((1,),)), ((None,), "key", ((1, 1),))),
            (((None, 0), "key", ((1,), (None,))), ((None,), "key", ((1,),))),
            ((FORK, "key", ((1,), (None,), (None,))), ((None, 0, 1), "key", ((1,), (None,), (None,)))),
            ((FORK, "key", ((None,),) * 3), (FORK, "bundle", ((None,),) * 3)),
        ):
            for one, two in product(benches(catalog), benches(other_catalog)):
                self.assertIs(one == two, False)
                self.assertIs(one != two, True)

    def test_what_can_be_taken_back_does_not_count(self):
        one, two = Bench(KEYED), Bench(KEYED)
        one.put(3, 0, 9)
        self.assertIs(one == two, False)
        one.take(3, 0)
        one.begin()
        self.assertIs(one == two, True)

    def test_unequal_to_any_other_value(self):
        for bench in benches(KEYED):
            for value in samples.any_values() + [KEYED, bench.tree, Doors(TREE), [bench], (bench,)]:
                if not isinstance(value, Bench):
                    self.assertIs(bench == value, False)
                    self.assertIs(bench != value, True)

    def test_by_the_definition(self):
        for way in ("key", "bundle"):
            catalogs = reference.catalogs_of(FORK, way, 1, (None, 4, 5))
            catalogs += [(FORK, way, ((4, 5), (text, None), (other, 5)))
                         for text, other in product((None, 4, 5), repeat=2)]
            lists = reference.lists_up_to(FORK, 2)
            kinds = ((Bench, LeanBench), (PageBench, Bench), (LeanPageBench, PageBench))
            for at, (catalog, other_catalog) in enumerate(product(catalogs, repeat=2)):
                kind, other_kind = kinds[at % 3]
                same = (len(catalog[2][0]) == len(other_catalog[2][0])
                        and reference.same_shown(catalog, other_catalog, lists))
                self.assertIs(made(kind, catalog) == made(other_kind, other_catalog), same)


class Wrong(unittest.TestCase):
    def test_wrong_catalogs(self):
        for kind in CLASSES:
            for catalog in samples.any_values():
                if not reference.is_catalog(catalog):
                    with self.assertRaises(InvalidCatalog):
                        made(kind, catalog, None)

    def test_wrong_pages(self):
        for kind in PAGED:
            for page in samples.any_values() + samples.changed((0, 1)):
                if not reference.is_page(WHOLE, page):
                    with self.assertRaises(InvalidPage):
                        kind(WHOLE, page=page)
            # A wrong page goes ahead of one that can be mixed.
            for page in ((1, 0), (0, 1, 2), [0, 1], (0, True)):
                with self.assertRaises(InvalidPage):
                    kind(KEYED, page=page)

    def test_a_page_is_given_by_name_alone(self):
        for kind in PAGED:
            with self.assertRaises(TypeError):
                kind(WHOLE, (0, 1))
            with self.assertRaises(TypeError):
                kind(WHOLE)
            self.assertEqual(kind(page=(0, 1), catalog=WHOLE).page, (0, 1))
        for kind in (Bench, LeanBench):
            with self.assertRaises(TypeError):
                kind(WHOLE, page=(0, 1))
            self.assertEqual(kind(catalog=WHOLE).catalog, WHOLE)

    def test_wrong_arguments_of_each_method(self):
        locales = [value for value in samples.any_values() if not reference.is_locale(TREE, value)]
        keys = [value for value in samples.any_values() if not reference.is_key(KEYED, value)]
        texts = [value for value in samples.any_values() if not reference.is_text(value)]
        wishes = [value for value in samples.any_values() if not reference.is_wishes(TREE, value)]
        pages = [value for value in samples.any_values() if not reference.is_page(KEYED, value)]
        for bench in benches(KEYED):
            for error, values, calls in (
                (InvalidLocale, locales, (lambda value: bench.put(value, None, None), lambda value: bench[value],
                                          lambda value: bench.take(value, None))),
                (InvalidKey, keys, (lambda value: bench.put(0, value, None), lambda value: bench.take(0, value))),
                (InvalidText, texts, (lambda value: bench.put(0, 0, value),)),
                (InvalidWishes, wishes, (lambda value: bench.show(value),)),
                (InvalidPage, pages, (lambda value: bench.mixing(value),)),
            ):
                for value, call in product(values, calls):
                    with self.assertRaises(error):
                        call(value)
            self.assertEqual(state_of(bench), (KEYED, []))


class Model:
    """What a bench must do, by the definitions, with whole states for the blocks."""

    def __init__(self, kind, catalog, page):
        self.kind, self.catalog, self.page = kind, catalog, page
        self.deeds, self.blocks = [], []
        self.lists = reference.lists_up_to(catalog[0], 2)

    def refused(self, word, behind, entry):
        if self.kind in PAGED:
            wishes = reference.first_mixing(behind, self.page, self.lists)
            if wishes is not None:
                return ("Mixed", wishes)
        if self.kind in LEAN and word == "put":
            if reference.same_shown(behind, reference.without(behind, entry), self.lists):
                return ("Needless", None)
        return None

    def do(self, word, locale, key, text):
        before = self.catalog[2][locale][key]
        if word == "take" and before is None:
            return ("NothingThere", None)
        behind = with_text(self.catalog, locale, key, text)
        refused = self.refused(word, behind, (locale, key))
        if refused is not None:
            return refused
        self.deeds.append((word, self.catalog))
        self.catalog = behind
        return before

    def undo(self):
        inside = len(self.deeds) - (len(self.blocks[-1][1]) if self.blocks else 0)
        if inside == 0:
            return ("NothingToUndo", None)
        word, self.catalog = self.deeds.pop()
        return word

    def begin(self):
        self.blocks.append((self.catalog, list(self.deeds)))

    def finish(self):
        if not self.blocks:
            return ("NoBlock", None)
        self.catalog, self.deeds = self.blocks.pop()
        return None


def answer(call, *given):
    """What the call returns, or its error's name and list."""
    try:
        return call(*given)
    except WishError as error:
        return (type(error).__name__, getattr(error, "wishes", None))


class ByTheModel(unittest.TestCase):
    """Long rows of deeds against the model."""

    def assert_step(self, bench, model, word, given):
        if word == "put":
            got, want = answer(bench.put, *given), model.do("put", *given)
        elif word == "take":
            got, want = answer(bench.take, *given[:2]), model.do("take", given[0], given[1], None)
        else:
            got, want = answer(getattr(bench, word)), getattr(model, word)()
        self.assertEqual(repr(got), repr(want), (word, given, model.catalog))
        self.assertEqual(repr(bench.catalog), repr(model.catalog))
        return type(got) is tuple and got[0]

    def assert_run(self, kind, catalog, page, steps, source):
        bench, model = made(kind, catalog, page), Model(kind, catalog, page)
        seen = set()
        for _ in range(steps):
            word = source.choice(("put",) * 6 + ("take",) * 4 + ("undo",) * 2 + ("begin", "finish"))
            given = (source.randrange(len(catalog[0])), source.randrange(2), source.randrange(3))
            seen.add(self.assert_step(bench, model, word, given))
            seen.add(word)
        self.assertEqual(undone(bench), model.deeds[::-1])
        self.assertEqual(len(bench), len(reference.entries(model.catalog)))
        return seen

    def test_each_class(self):
        source = random.Random(17)
        starts = (
            ((None, 0, 0), ((0, 1), (None, None), (None, None))), ((None, 0, 1), ((None, None),) * 3),
            ((None, 0, 0), ((0, 1), (1, 2), (2, 0))), ((None, 0, 1, 0), ((0, 1), (None, None), (2, 2), (None, None))),
        )
        for kind, way in product(CLASSES, ("key", "bundle")):
            seen = set()
            for tree, rows in starts:
                for page in ((0, 1), (1,)):
                    seen |= self.assert_run(kind, (tree, way, rows), page, 90, source)
            self.assertLess({"put", "take", "undo", "begin", "finish", "NothingThere", "NoBlock"}, seen)
            self.assertEqual("Mixed" in seen, kind in PAGED)
            self.assertEqual("Needless" in seen, kind in LEAN)

    def test_all_short_rows_of_deeds(self):
        steps = [("put", (1, 0, 5)), ("put", (2, 1, 4)), ("take", (0, 0, None)), ("undo", None),
                 ("begin", None), ("finish", None)]
        for kind in CLASSES:
            for row in product(steps, repeat=4):
                bench, model = made(kind, ROOT_ONLY, (0, 1)), Model(kind, ROOT_ONLY, (0, 1))
                for word, given in row:
                    self.assert_step(bench, model, word, given)
                self.assertEqual(undone(bench), model.deeds[::-1])


if __name__ == "__main__":
    unittest.main()
