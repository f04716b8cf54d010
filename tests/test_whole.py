"""Tests over the whole program: a console, a bench, the words and the functions agree."""

import random
import unittest
from itertools import product

import reference
from samples import CATALOGS, KEYED, TREE
from wishedtongues.benches import Bench, LeanBench, LeanPageBench, PageBench
from wishedtongues.catalogs import entries, is_skipped, place, same_here, shown_row, with_text
from wishedtongues.compare import alike
from wishedtongues.console import Console
from wishedtongues.doors import Doors
from wishedtongues.errors import (
    InvalidCommand, InvalidKey, InvalidLocale, InvalidPage, InvalidText, InvalidWishes, Mixed, Needless,
    NothingThere, WishError,
)
from wishedtongues.least import count_least, least, needless
from wishedtongues.pages import completed, fewest_added, mixing
from wishedtongues.trees import same_wishes, slim
from wishedtongues.words import (
    read_catalog, read_door, read_tree, read_wishes,
    write_catalog, write_door, write_tree, write_wishes,
)

FORK = (None, 0, 0)
LETTERS = "abcdefghij"


def words_of(wishes):
    return " ".join(LETTERS[wish] for wish in wishes) if wishes else "-"


def signs_of(row):
    return "".join("-" if text is None else str(text) for text in row)


def small_catalogs():
    """Catalogs of both ways in small worlds."""
    found = []
    for way in ("key", "bundle"):
        found += reference.catalogs_of(FORK, way, 1, (None, 4, 5))
        found += reference.catalogs_of((None, 0, 1), way, 2, (None, 4))
        found += reference.catalogs_of(FORK, way, 2, (None, 4))
    return found


def raised(call, *given, **named):
    """The error that the call raises, or None."""
    try:
        call(*given, **named)
    except WishError as error:
        return error
    return None


class Together(unittest.TestCase):
    """The answers of a console, of a bench and of the functions agree."""

    def assert_agree(self, console, bench):
        catalog = bench.catalog
        tree, _, rows = catalog
        for wishes in reference.lists_up_to(tree, 2):
            words = words_of(wishes)
            row = shown_row(catalog, wishes)
            self.assertEqual(console.execute("show " + words), signs_of(row))
            self.assertEqual(bench.show(wishes), row)
            self.assertEqual(console.execute("slim " + words), words_of(slim(tree, wishes)))
            for key in range(len(rows[0])):
                found = place(catalog, wishes, key)
                self.assertEqual(
                    console.execute("place %d %s" % (key, words)), "-" if found is None else LETTERS[found])
        page = tuple(range(len(rows[0])))
        wishes = mixing(catalog, page)
        self.assertEqual(bench.mixing(page), wishes)
        self.assertEqual(
            console.execute("mixing " + " ".join(map(str, page))), "none" if wishes is None else words_of(wishes))
        self.assertEqual(
            console.execute("least"), "%d %d" % (len(reference.entries(least(catalog))), count_least(catalog)))

    def test_on_all_samples(self):
        for catalog in CATALOGS:
            self.assert_agree(Console(catalog), Bench(catalog))

    def test_on_their_way(self):
        source = random.Random(19)
        for way, tree in product(("key", "bundle"), (FORK, TREE)):
            catalog = (tree, way, ((1, None),) + ((None, None),) * (len(tree) - 1))
            console, bench = Console(catalog), Bench(catalog)
            for _ in range(40):
                locale, key, text = source.randrange(len(tree)), source.randrange(2), source.randrange(10)
                word = source.choice(("put", "put", "put", "take", "take", "undo"))
                given = {"put": (locale, key, text), "take": (locale, key), "undo": ()}[word]
                signs = {"put": [LETTERS[locale], str(key), str(text)], "take": [LETTERS[locale], str(key)], "undo": []}
                command = " ".join([word] + signs[word])
                self.assert_step(console, bench, word, given, source.choice(("try ", "")) + command)
            self.assert_agree(console, bench)

    def assert_step(self, console, bench, word, given, command):
        if command[:3] == "try":
            bench.begin()
        try:
            told = getattr(bench, word)(*given)
        except WishError as error:
            with self.assertRaises(type(error)):
                console.execute(command)
        else:
            told = told if word == "undo" else signs_of((told,))
            self.assertEqual(console.execute(command), told)
        if command[:3] == "try":
            bench.finish()

    def test_entries(self):
        for catalog in CATALOGS:
            bench = Bench(catalog)
            self.assertEqual(len(bench), len(entries(catalog)))
            for locale, key in product(range(10), range(4)):
                self.assertIs((locale, key) in bench, (locale, key) in entries(catalog))

    def test_equal_benches_are_those_of_alike_catalogs(self):
        catalogs = reference.catalogs_of(FORK, "bundle", 1, (None, 4, 5))
        for catalog, other_catalog in product(catalogs, repeat=2):
            self.assertIs(Bench(catalog) == Bench(other_catalog), alike(catalog, other_catalog))

    def test_a_bench_of_a_least_catalog_is_equal(self):
        for catalog in CATALOGS:
            self.assertIs(Bench(catalog) == LeanBench(least(catalog)), True)

    def test_doors_and_wish_lists(self):
        for catalog in CATALOGS:
            tree = catalog[0]
            low = len(tree) - 1
            lists = ((), (0,), (low,), (0, low), (low, 0), (low, low // 2))
            for wishes, other_wishes in product(lists, repeat=2):
                # Behind these doors each list is one and the same.
                one = Doors(tree, ("only", ()), ("pad", wishes))
                two = Doors(tree, ("lift", ()), ("head", other_wishes))
                self.assertEqual((one((low,)), two((low,))), (wishes, other_wishes))
                self.assertIs(one == two, same_wishes(tree, wishes, other_wishes))
                self.assertIs(one.same_here(two, catalog), same_here(catalog, wishes, other_wishes))

    def test_written_and_read(self):
        for catalog in CATALOGS:
            tree = read_tree(write_tree(catalog[0]))
            bench = Bench(read_catalog(write_catalog(catalog)))
            self.assertEqual((bench.tree, bench.catalog), (tree, catalog))
            for wishes in reference.lists_up_to(tree, 2):
                self.assertEqual(words_of(wishes), write_wishes(tree, wishes))
                for word in ("head", "pad"):
                    door = read_door(tree, word + " " + write_wishes(tree, wishes))
                    self.assertEqual(Doors(tree, door)(()), read_wishes(tree, words_of(wishes)))
                    self.assertEqual(write_door(tree, door), word + " " + words_of(wishes))


class Refused(unittest.TestCase):
    """What is refused by one is refused by the other."""

    def test_needless_puts(self):
        for catalog in small_catalogs():
            for locale, key, text in product(range(3), range(len(catalog[2][0])), (4, 5)):
                behind = with_text(catalog, locale, key, text)
                error = raised(LeanBench(catalog).put, locale, key, text)
                if (locale, key) in needless(behind):
                    self.assertIs(type(error), Needless)
                else:
                    self.assertIs(error, None)

    def test_pages_that_can_be_mixed(self):
        page = (0, 1)
        for catalog in small_catalogs():
            if len(catalog[2][0]) == 2:
                wishes = mixing(catalog, page)
                for kind in (PageBench, LeanPageBench):
                    error = raised(kind, catalog, page=page)
                    self.assertEqual(getattr(error, "wishes", None), wishes)
                    self.assertIs(error is None, fewest_added(catalog, page) == 0)
                bench = PageBench(completed(catalog, page, 5), page=page)
                self.assert_refused_as_the_functions_say(bench, page)

    def assert_refused_as_the_functions_say(self, bench, page):
        for locale, key in product(range(3), range(2)):
            for text in (None, 5, 7):
                behind = with_text(bench.catalog, locale, key, text)
                twin = bench.twin()
                if text is None and (locale, key) not in bench:
                    error, wishes = raised(twin.take, locale, key), None
                    self.assertIs(type(error), NothingThere)
                else:
                    given = (locale, key) if text is None else (locale, key, text)
                    error = raised(twin.take if text is None else twin.put, *given)
                    wishes = mixing(behind, page)
                    self.assertIs(type(error), type(None) if wishes is None else Mixed)
                self.assertEqual(getattr(error, "wishes", None), wishes)
                self.assertEqual(twin.catalog, behind if error is None else bench.catalog)

    def test_a_console_and_a_bench(self):
        console, bench = Console(KEYED), Bench(KEYED)
        for locale, key, text in product(range(-1, 11), range(-1, 5), range(-1, 11)):
            letter = LETTERS[locale] if 0 <= locale < 10 else str(locale)
            for word, given in (("put", (locale, key, text)), ("take", (locale, key))):
                signs = [letter] + [str(number) for number in given[1:]]
                error = raised(getattr(bench, word), *given)
                other_error = raised(console.execute, " ".join([word] + signs))
                if type(error) in (InvalidLocale, InvalidKey, InvalidText):
                    self.assertIs(type(other_error), InvalidCommand, (word, given))
                else:
                    self.assertIs(type(other_error), type(error), (word, given))
        self.assertEqual(console.execute("show b d"), signs_of(bench.show((1, 3))))

    def test_wishes_and_pages(self):
        console, bench = Console(KEYED), Bench(KEYED)
        for wishes in product(range(6), repeat=2):
            error = raised(bench.show, wishes)
            other_error = raised(console.execute, "show " + words_of(wishes))
            self.assertEqual(type(error) is InvalidWishes, type(other_error) is InvalidCommand)
        for many in range(1, 4):
            for page in product(range(4), repeat=many):
                error = raised(bench.mixing, page)
                other_error = raised(console.execute, "mixing " + " ".join(map(str, page)))
                self.assertEqual(type(error) is InvalidPage, type(other_error) is InvalidCommand)

    def test_skipped_locales_and_lean_benches(self):
        # An entry that keeps its locale from being skipped may be needed, though its text is the root's.
        catalog = (FORK, "bundle", ((5, 6), (None, None), (7, None)))
        self.assertIs(is_skipped(catalog, 1), True)
        bench = LeanBench(catalog)
        self.assertIs(bench.put(1, 0, 5), None)
        self.assertIs(type(raised(bench.put, 1, 1, 6)), Needless)
        self.assertEqual((bench.take(1, 0), bench.put(1, 1, 6)), (5, None))


if __name__ == "__main__":
    unittest.main()
