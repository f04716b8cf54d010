"""Tests of wishedtongues.console [19]."""

import unittest

import reference
import samples
from samples import BUNDLED, CATALOGS, FOUR_KEYS, KEYED, NO_ENTRIES, ONE_LOCALE, ROOT_ALONE, TREE
from wishedtongues.benches import Bench
from wishedtongues.console import Console
from wishedtongues.errors import InvalidCatalog, InvalidCommand, NothingThere, NothingToUndo, WishError
from wishedtongues.least import count_least, least

FORK = (None, 0, 0)
# All locales and keys are asked about, so that these tell of each change.
ASKING = ["show " + words for words in ("-", "b", "c", "d", "b d", "c d", "d b", "d c")]


class Consoles(unittest.TestCase):
    def assert_answers(self, catalog, *steps):
        """The commands have these answers, one after the other; an error is one, too."""
        console = Console(catalog)
        for command, answer in steps:
            if isinstance(answer, str):
                got = console.execute(command)
                self.assertIs(type(got), str)
                self.assertEqual(got, answer, command)
            else:
                with self.assertRaises(answer, msg=command) as caught:
                    console.execute(command)
                self.assertIs(type(caught.exception), answer)
        return console


class Answers(Consoles):
    def test_put(self):
        self.assert_answers(
            KEYED, ("put d a 1", InvalidCommand), ("put d 0 7", "-"), ("put d 0 0", "7"), ("put d 0 9", "0"),
            ("put a 1 2", "6"), ("put c 1 2", "2"), ("show d", "93"), ("show -", "52"))

    def test_take(self):
        self.assert_answers(
            KEYED, ("take c 1", "2"), ("take c 1", NothingThere), ("take d 0", NothingThere), ("take a 0", "5"),
            ("show c", "16"), ("show -", "-6"), ("take a 1", "6"), ("show -", "--"))

    def test_undo(self):
        self.assert_answers(
            KEYED, ("undo", NothingToUndo), ("put d 0 7", "-"), ("take a 0", "5"), ("put a 0 1", "-"),
            ("undo", "put"), ("show -", "-6"), ("undo", "take"), ("show d", "73"), ("undo", "put"),
            ("show d", "53"), ("undo", NothingToUndo), ("put a 0 5", "5"), ("undo", "put"), ("undo", NothingToUndo))

    def test_show(self):
        self.assert_answers(
            KEYED, ("show c", "12"), ("show d", "53"), ("show b d", "13"), ("show -", "56"), ("show a", "56"),
            ("show a c", "56"), ("show c c b", "12"))
        self.assert_answers(BUNDLED, ("show b d", "16"), ("show d b", "53"))
        self.assert_answers(NO_ENTRIES, ("show -", "--"), ("show b c", "--"))
        self.assert_answers(FOUR_KEYS, ("show -", "-1-9"), ("show e", "6549"), ("show f e b", "6578"))

    def test_place(self):
        self.assert_answers(
            KEYED, ("place 0 c", "b"), ("place 1 c", "c"), ("place 1 b", "a"), ("place 0 -", "a"),
            ("place 1 b d", "d"), ("place 0 a b", "a"))
        self.assert_answers(BUNDLED, ("place 1 b d", "a"))
        self.assert_answers(ROOT_ALONE, ("place 1 -", "-"), ("place 0 d c", "a"))

    def test_slim(self):
        self.assert_answers(
            KEYED, ("slim c b d c a", "c d"), ("slim -", "-"), ("slim a", "-"), ("slim a a", "-"), ("slim a b", "a b"),
            ("slim b c", "b c"), ("slim d d d", "d"), ("slim b a d a", "b a d"))

    def test_mixing(self):
        self.assert_answers(
            KEYED, ("mixing 0 1", "b"), ("mixing 0", "none"), ("mixing 1", "none"), ("put b 1 8", "-"),
            ("mixing 0 1", "d"), ("put d 0 8", "-"), ("mixing 0 1", "none"))
        self.assert_answers(
            (FORK, "key", ((None, None), (1, None), (None, 2))), ("mixing 0 1", "b c"), ("mixing 1", "none"))
        self.assert_answers(FOUR_KEYS, ("mixing 0 2 3", "b"), ("mixing 0 2", "b c"))

    def test_least(self):
        for catalog in CATALOGS:
            want = "%d %d" % (len(reference.entries(least(catalog))), count_least(catalog))
            self.assert_answers(catalog, ("least", want), ("least", want))
        self.assert_answers(KEYED, ("least", "5 1"), ("put c 0 1", "-"), ("least", "5 1"))
        self.assert_answers((FORK, "bundle", ((5, 6), (5, None), (7, None))), ("least", "4 2"))
        self.assert_answers(NO_ENTRIES, ("least", "0 1"))

    def test_try(self):
        self.assert_answers(
            KEYED, ("try put d 0 7", "-"), ("show d", "53"), ("try take a 0", "5"), ("show -", "56"),
            ("undo", NothingToUndo), ("try show b d", "13"), ("try place 1 b", "a"), ("try slim a", "-"),
            ("try mixing 0 1", "b"), ("try least", "5 1"))

    def test_undo_inside_of_a_try(self):
        self.assert_answers(
            KEYED, ("put d 0 7", "-"), ("try undo", NothingToUndo), ("try try undo", NothingToUndo),
            ("show d", "73"), ("try put d 0 1", "7"), ("undo", "put"), ("undo", NothingToUndo))

    def test_try_up_to_eight_times(self):
        for many in range(1, 9):
            self.assert_answers(
                KEYED, ("try " * many + "put d 0 7", "-"), ("show d", "53"), ("try " * many + "take c 1", "2"),
                ("show c", "12"), ("try " * many + "show c", "12"), ("undo", NothingToUndo))
        for many in (9, 10, 500):
            self.assert_answers(
                KEYED, ("try " * many + "put d 0 7", InvalidCommand), ("try " * many + "show -", InvalidCommand),
                ("show d", "53"), ("undo", NothingToUndo))

    def test_a_try_of_a_command_that_raises_an_error(self):
        for many in (0, 1, 2, 8):
            tries = "try " * many
            self.assert_answers(
                KEYED, ("put d 0 7", "-"), (tries + "take b 1", NothingThere), (tries + "put b 1", InvalidCommand),
                ("try " + tries[4:] + "undo", NothingToUndo), ("show d", "73"), ("undo", "put"),
                ("undo", NothingToUndo), (tries + "undo", NothingToUndo), ("show d", "53"))

    def test_all_that_a_try_leaves_as_it_was(self):
        for command in ("put d 0 7", "take a 0", "take b 1", "undo", "show c", "least", "mixing 0 1"):
            for tries in ("try ", "try " * 8):
                console, other = Console(BUNDLED), Console(BUNDLED)
                for step in ("put d 0 4", "take c 1", "put c 0 2"):
                    self.assertEqual(console.execute(step), other.execute(step))
                try:
                    console.execute(tries + command)
                except WishError as error:
                    self.assertIn(type(error), (NothingThere, NothingToUndo))
                for step in ASKING + ["undo"] + ASKING + ["undo", "undo"] + ASKING:
                    self.assertEqual(console.execute(step), other.execute(step))
                with self.assertRaises(NothingToUndo):
                    console.execute("undo")

    def test_arguments_by_name(self):
        self.assertEqual(Console(catalog=KEYED).execute(command="show -"), "56")

    def test_two_consoles_of_one_catalog(self):
        one, two = Console(KEYED), Console(KEYED)
        one.execute("put d 0 7")
        self.assertEqual((one.execute("show d"), two.execute("show d")), ("73", "53"))


class Wrong(Consoles):
    COMMANDS = (
        "", " ", "-", "none", "puts", "put", "put d", "put d 0", "put d 0 7 7", "put d 0 7 ", " put d 0 7",
        "put  d 0 7", "put d  0 7", "put e 0 7", "put d 2 7", "put d 0 -", "put d 0 10", "put d -1 7", "put 3 0 7",
        "put D 0 7", "put - 0 7", "put d - 7", "put d 0 a", "put d 0 x", "put k 0 7", "PUT d 0 7",
        "put\nd 0 7", "put d 0 7\n", "put d0 7",
        "put dd 0 7", "put d 00 7", "put d 0 7 undo", "put 0 d 7",
        "take", "take c", "take c 1 1", "take e 0", "take c 2", "take 2 1", "take c 1 ", "take -", "take c -",
        "undo undo", "undo ", "undo -", "undo 1", "Undo",
        "show", "show ", "show - -", "show b -", "show - b", "show e", "show b  d", "show B", "show 1", "show b,d",
        "show bd", "show b ", "shows b",
        "place", "place 0", "place b", "place b 0", "place 2 b", "place 0 1 b", "place 0 e", "place - b", "place 0 - b",
        "place 0 ", "place 0 b ", "place 01 b",
        "slim", "slim ", "slim e", "slim - -", "slim b -", "slim b  c",
        "mixing", "mixing ", "mixing -", "mixing 2", "mixing 0 0", "mixing 1 0", "mixing 0 1 2", "mixing 0  1",
        "mixing a", "mixing 0 1 ", "mixing 01", "mixing 0 -",
        "least least", "least ", "least 1", "least -", "lease",
        "try", "try ", "try try", "trytry show -", "try  show -", "show try", "undo try", "tries show -", "begin",
        "finish", "twin", "own b", "try put d 0", "try try put d 0 10", "try show e",
    )

    def test_commands_that_are_none(self):
        for tries in ("", "try ", "try " * 7):
            console = Console(KEYED)
            console.execute("put d 0 7")
            for command in self.COMMANDS:
                with self.assertRaises(InvalidCommand, msg=command):
                    console.execute(tries + command)
            self.assertEqual(console.execute("show d"), "73")
            self.assertEqual(console.execute("undo"), "put")
            with self.assertRaises(NothingToUndo):
                console.execute("undo")

    def test_values_that_are_no_strings(self):
        console = Console(KEYED)
        for value in samples.any_values() + [["undo"], ("show", "-"), b"undo", console]:
            if value not in ("undo", "try least"):
                with self.assertRaises(InvalidCommand, msg=value):
                    console.execute(value)
        self.assertEqual(console.execute("show d"), "53")

    def test_a_command_is_looked_at_before_anything_is_done(self):
        # There is nothing to take or to undo, but the words are wrong, too.
        self.assert_answers(
            NO_ENTRIES, ("take b 0 0", InvalidCommand), ("undo 0", InvalidCommand), ("try take b 0 0", InvalidCommand),
            ("take b 0", NothingThere), ("undo", NothingToUndo), ("try undo try", InvalidCommand))

    def test_locales_and_keys_are_those_of_the_catalog(self):
        self.assert_answers(
            ONE_LOCALE, ("show a", "7"), ("show b", InvalidCommand), ("put a 0 3", "7"), ("put a 1 3", InvalidCommand),
            ("put b 0 3", InvalidCommand), ("mixing 0", "none"), ("mixing 1", InvalidCommand), ("place 0 a", "a"),
            ("place 1 a", InvalidCommand), ("take a 0", "3"), ("take a 0", NothingThere), ("slim a a", "-"))
        ten = ((None,) + (0,) * 9, "key", tuple((text,) for text in range(10)))
        self.assert_answers(ten, ("show j", "9"), ("show j i a", "9"), ("put j 0 0", "9"), ("show k", InvalidCommand))
        self.assert_answers(FOUR_KEYS, ("mixing 0 1 2 3", "b"), ("put f 3 0", "8"), ("put f 4 0", InvalidCommand))

    def test_wrong_catalogs(self):
        for catalog in samples.any_values() + samples.changed(KEYED)[::3] + [Bench(KEYED), Console(KEYED)]:
            if not reference.is_catalog(catalog):
                with self.assertRaises(InvalidCatalog):
                    Console(catalog)


if __name__ == "__main__":
    unittest.main()
