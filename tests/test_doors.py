"""Tests of wishedtongues.doors [8], [16], F10."""

import unittest
from itertools import product

import reference
import samples
from samples import BUNDLED, CHAIN_TEN, EMPTY_ROOT, KEYED, MIXED_TEN, TREE
from wishedtongues.catalogs import with_text
from wishedtongues.doors import Doors, is_door
from wishedtongues.errors import (
    InvalidCatalog, InvalidDoor, InvalidIndex, InvalidTree, InvalidWishes, Unlike,
)

FORK = (None, 0, 0)
CHAIN = (None, 0, 1)

DOORS = (
    ("only", ()), ("only", (0,)), ("only", (1, 3)), ("only", (0, 1, 2, 3)),
    ("lift", ()), ("lift", (0,)), ("lift", (1,)), ("lift", (0, 1, 2)), ("lift", (0, 1, 2, 3)),
    ("swap", ()), ("swap", ((1, 2),)), ("swap", ((0, 3), (1, 1), (3, 0))),
    ("head", ()), ("head", (2,)), ("head", (3, 0, 3)), ("pad", ()), ("pad", (0,)), ("pad", (1, 1)),
)

NO_DOORS = (
    (), ("only",), ("only", (), ()), ("only", None), ("only", 1), ("only", [1]), ["only", (1,)],
    ("only", (1, 1)), ("only", (2, 1)), ("only", (4,)), ("only", (-1,)), ("only", (True,)),
    ("only", ("1",)), ("only", (1, None)), ("Only", (1,)), ("only ", (1,)), ("", ()), (None, ()),
    (("only",), ()), (0, ()), "only", None, 0, True,
    ("lift", (0, 0)), ("lift", (3, 2)), ("lift", (0, 4)), ("lift", [0]), ("lift", (False,)),
    ("swap", (1, 2)), ("swap", ((1, 2), (1, 3))), ("swap", ((1, 2), (0, 2))), ("swap", ((1,),)),
    ("swap", ((1, 2, 3),)), ("swap", ([1, 2],)), ("swap", [(1, 2)]), ("swap", ((1, 4),)),
    ("swap", ((4, 1),)), ("swap", ((1, True),)), ("swap", ((True, 1),)), ("swap", ((1, -1),)),
    ("swap", ((1, 2), (1, 2))), ("swap", ((1, None),)), ("swap", (None,)), ("swap", ((),)),
    ("head", (4,)), ("head", [1]), ("head", 1), ("head", (None,)), ("head", (1, True)), ("head",),
    ("pad", (-1,)), ("pad", [0]), ("pad", (0, (1,))), ("pad", (1.0,)), ("pads", (1,)), ("tail", (1,)),
)


class IsDoor(unittest.TestCase):
    def test_each_of_the_five_kinds(self):
        for door in DOORS:
            self.assertIs(is_door(TREE, door), True, door)
            self.assertIs(reference.is_door(TREE, door), True, door)

    def test_values_that_are_none(self):
        for value in NO_DOORS:
            self.assertIs(is_door(TREE, value), False, value)

    def test_any_values(self):
        for tree in (TREE, (None,), CHAIN_TEN):
            for value in samples.any_values():
                self.assertIs(is_door(tree, value), reference.is_door(tree, value), value)
            for word, value in product(("only", "lift", "swap", "head", "pad"), samples.any_values()):
                door = (word, value)
                self.assertIs(is_door(tree, door), reference.is_door(tree, door), door)

    def test_changed_doors(self):
        for door in DOORS:
            for value in samples.changed(door):
                self.assertIs(is_door(TREE, value), reference.is_door(TREE, value), value)

    def test_locales_are_those_of_the_tree(self):
        for word in ("only", "lift", "head", "pad"):
            self.assertIs(is_door((None,), (word, (0,))), True)
            self.assertIs(is_door((None,), (word, (1,))), False)
            self.assertIs(is_door(CHAIN_TEN, (word, (9,))), True)
            self.assertIs(is_door(CHAIN_TEN, (word, (10,))), False)
        self.assertIs(is_door((None,), ("swap", ((0, 0),))), True)
        self.assertIs(is_door((None,), ("swap", ((0, 1),))), False)

    def test_wrong_trees(self):
        for tree in ((), [None], (0,), (None, 1), None, "tree", True):
            for value in (("only", ()), None):
                with self.assertRaises(InvalidTree):
                    is_door(tree, value)


class Passing(unittest.TestCase):
    def assert_behind(self, doors, wishes, behind):
        self.assertEqual(repr(Doors(TREE, *doors)(wishes)), repr(behind), (doors, wishes))

    def test_no_doors(self):
        for wishes in ((), (0,), (3, 3, 0, 2)):
            self.assert_behind((), wishes, wishes)

    def test_only(self):
        self.assert_behind([("only", (1, 3))], (3, 0, 1, 2, 3), (3, 1, 3))
        self.assert_behind([("only", ())], (3, 0, 1), ())
        self.assert_behind([("only", (0,))], (1, 0, 2, 0), (0, 0))

    def test_lift(self):
        self.assert_behind([("lift", (1,))], (2, 1, 3, 0, 2), (1, 1, 1))
        self.assert_behind([("lift", (1, 2))], (2, 1, 3), (2, 1))
        self.assert_behind([("lift", (0,))], (2, 0, 1, 3), (0,))
        self.assert_behind([("lift", ())], (2, 0, 1, 3), ())
        self.assertEqual(Doors(CHAIN_TEN, ("lift", (3, 6)))((9, 6, 5, 3, 2, 0)), (6, 6, 3, 3))

    def test_swap(self):
        self.assert_behind([("swap", ((1, 3), (3, 1)))], (1, 3, 2, 1), (3, 1, 2, 3))
        self.assert_behind([("swap", ((0, 1), (1, 2), (2, 3)))], (0, 1, 2, 3), (1, 2, 3, 3))
        self.assert_behind([("swap", ())], (0, 1), (0, 1))
        self.assert_behind([("swap", ((2, 2),))], (2, 1), (2, 1))

    def test_head_and_pad(self):
        self.assert_behind([("head", (3, 0))], (1, 2), (3, 0, 1, 2))
        self.assert_behind([("pad", (3, 0))], (1, 2), (1, 2, 3, 0))
        self.assert_behind([("head", (1,))], (), (1,))
        self.assert_behind([("pad", ())], (), ())
        self.assert_behind([("head", (1, 2)), ("head", (3,))], (0,), (3, 1, 2, 0))
        self.assert_behind([("pad", (1, 2)), ("pad", (3,))], (0,), (0, 1, 2, 3))

    def test_one_door_after_the_other(self):
        self.assert_behind([("head", (2,)), ("only", (2, 3))], (1, 3), (2, 3))
        self.assert_behind([("only", (2, 3)), ("head", (1,))], (1, 3), (1, 3))
        self.assert_behind([("swap", ((1, 2),)), ("swap", ((2, 3),))], (1, 2), (3, 3))
        self.assert_behind([("swap", ((2, 3),)), ("swap", ((1, 2),))], (1, 2), (2, 3))

    def test_nothing_is_made_slim(self):
        self.assert_behind([("pad", (0,))], (2, 1, 2, 0), (2, 1, 2, 0, 0))
        # The second 2 would be lost if the list were made slim between the doors.
        self.assert_behind([("lift", (1, 2)), ("swap", ((1, 3),))], (2, 1, 2), (2, 3, 2))

    def test_all_doors_by_the_definition(self):
        for tree in reference.trees_up_to(3):
            lists = reference.lists_up_to(tree, 3)
            for door in reference.doors_of(tree, 2):
                doors = Doors(tree, door)
                for wishes in lists:
                    self.assertEqual(
                        repr(doors(wishes)), repr(reference.behind(tree, (door,), wishes)), (door, wishes))

    def test_pairs_of_doors_by_the_definition(self):
        for door, other_door in product(DOORS, repeat=2):
            doors = Doors(TREE, door, other_door)
            for wishes in ((), (0,), (2, 1), (3, 0, 1, 2), (1, 1, 3, 3)):
                self.assertEqual(doors(wishes), reference.behind(TREE, (door, other_door), wishes))

    def test_many_doors_and_wishes(self):
        doors = (("swap", ((9, 8),)), ("head", (9,) * 40)) * 4
        self.assertEqual(Doors(MIXED_TEN, *doors)((9,) * 40), (9,) * 40 + (8,) * 160)

    def test_wrong_wishes(self):
        for doors in (Doors(TREE), Doors(TREE, ("only", ()))):
            for wishes in ([1], None, (4,), (-1,), (True,), ("1",), 1, ((),), doors):
                with self.assertRaises(InvalidWishes):
                    doors(wishes)
            self.assertEqual(doors(wishes=()), ())


class Rows(unittest.TestCase):
    def test_properties(self):
        doors = Doors(TREE, ("only", (1,)), ("pad", ()))
        self.assertEqual(doors.tree, TREE)
        self.assertEqual(doors.doors, (("only", (1,)), ("pad", ())))
        self.assertIs(type(doors.doors), tuple)
        self.assertEqual(Doors((None,)).doors, ())
        for name in ("tree", "doors"):
            with self.assertRaises(AttributeError):
                setattr(doors, name, ())

    def test_of(self):
        for doors in ((), (("only", (1,)),), DOORS):
            made = Doors.of(TREE, doors)
            self.assertIs(type(made), Doors)
            self.assertEqual(made.doors, doors)
            self.assertEqual(Doors.of(doors=doors, tree=TREE).doors, doors)
            self.assertEqual(Doors(TREE, *doors).doors, doors)

    def test_length_and_index(self):
        for many in range(len(DOORS)):
            doors = Doors.of(TREE, DOORS[:many])
            self.assertEqual(len(doors), many)
            for at in range(many):
                self.assertEqual(doors[at], DOORS[at])
            for wrong in (many, many + 1, -1, -many, 10 ** 30, True, False, None, "0", (0,), [0], (), doors,
                          slice(0, 1)):
                with self.assertRaises(InvalidIndex):
                    doors[wrong]

    def test_an_index_of_any_kind(self):
        doors = Doors.of(TREE, DOORS[:3])
        for value in samples.any_values():
            if not (type(value) is int and 0 <= value < 3):
                with self.assertRaises(InvalidIndex):
                    doors[value]

    def test_wrong_trees(self):
        for tree in ((), [None, 0], (None, 1), None, "tree", TREE + (9,), Doors(TREE)):
            for doors in ((), (("only", ()),), (None,)):
                with self.assertRaises(InvalidTree):
                    Doors(tree, *doors)
                with self.assertRaises(InvalidTree):
                    Doors.of(tree, doors)
            with self.assertRaises(InvalidTree):
                Doors.of(tree, None)

    def test_wrong_doors(self):
        good = ("only", (1,))
        for value in NO_DOORS:
            for doors in ((value,), (good, value), (value, good), (good, value, value)):
                with self.assertRaises(InvalidDoor):
                    Doors(TREE, *doors)
                with self.assertRaises(InvalidDoor):
                    Doors.of(TREE, doors)

    def test_of_takes_a_tuple_of_doors_alone(self):
        for value in ([], [("only", ())], None, 0, "only", ("only", ()), ((("only", ()),),), Doors(TREE),
                      {}, ("pad", ())):
            with self.assertRaises(InvalidDoor):
                Doors.of(TREE, value)
        for value in samples.any_values():
            if not (type(value) is tuple and all(reference.is_door(TREE, door) for door in value)):
                with self.assertRaises(InvalidDoor):
                    Doors.of(TREE, value)

    def test_together(self):
        one, two = Doors.of(TREE, DOORS[:3]), Doors.of(TREE, DOORS[3:5])
        both = one + two
        self.assertIs(type(both), Doors)
        self.assertEqual(both.doors, DOORS[:5])
        self.assertEqual(both.tree, TREE)
        self.assertEqual((two + one).doors, DOORS[3:5] + DOORS[:3])
        self.assertEqual((one.doors, two.doors), (DOORS[:3], DOORS[3:5]))
        self.assertEqual((one + Doors(TREE)).doors, DOORS[:3])
        self.assertEqual((Doors(TREE) + Doors(TREE)).doors, ())
        self.assertEqual((one + one).doors, DOORS[:3] + DOORS[:3])

    def test_together_in_place(self):
        one = Doors.of(TREE, DOORS[:2])
        kept = one
        one += Doors.of(TREE, DOORS[2:4])
        self.assertEqual(one.doors, DOORS[:4])
        self.assertIsNot(one, kept)
        self.assertEqual(kept.doors, DOORS[:2])

    def test_together_with_others(self):
        doors = Doors(TREE, ("only", (1,)))
        for other in (Doors(FORK), Doors((None,)), None, 0, (), [], "only", ("only", (1,)), (("only", (1,)),),
                      TREE, KEYED):
            with self.assertRaises(Unlike):
                doors + other
            with self.assertRaises(Unlike):
                doors += other
        self.assertEqual(doors.doors, (("only", (1,)),))

    def test_behind(self):
        doors = Doors(TREE)
        for at, door in enumerate(DOORS):
            longer = doors.behind(door)
            self.assertIs(type(longer), Doors)
            self.assertEqual((doors.doors, longer.doors), (DOORS[:at], DOORS[:at + 1]))
            self.assertEqual(doors.behind(door=door).doors, DOORS[:at + 1])
            doors = longer
        for value in NO_DOORS + (doors, (("only", ()),)):
            with self.assertRaises(InvalidDoor):
                doors.behind(value)

    def test_not_iterated_over_and_no_keys(self):
        for doors in (Doors(TREE), Doors.of(TREE, DOORS)):
            for call in (iter, list, tuple, hash, lambda one: {one: 1}, lambda one: (0, 0) in one,
                         lambda one: [door for door in one]):
                with self.assertRaises(TypeError):
                    call(doors)


class Alike(unittest.TestCase):
    def assert_parting(self, tree, doors, other_doors, wishes):
        one, two = Doors.of(tree, doors), Doors.of(tree, other_doors)
        for first, second in ((one, two), (two, one)):
            self.assertEqual(repr(first.parting(second)), repr(wishes), (doors, other_doors))
            self.assertIs(first == second, wishes is None)
            self.assertIs(first != second, wishes is not None)

    def test_alike_though_the_doors_differ(self):
        for doors, other_doors in (
            ((), (("only", (0, 1, 2, 3)),)),
            ((), (("pad", (0,)),)),
            ((), (("swap", ((1, 1),)),)),
            ((("only", ()),), (("lift", ()),)),
            ((("only", ()),), (("lift", (0,)),)),
            ((("swap", ((1, 2),)), ("swap", ((2, 3),))), (("swap", ((1, 3), (2, 3))),)),
            ((("head", (2,)),), (("head", (2, 1)),)),
            ((("head", (1,)), ("head", (2,))), (("head", (2, 1)),)),
            ((("only", ()), ("pad", (3, 0))), (("lift", ()), ("head", (3, 3)))),
        ):
            self.assert_parting(TREE, doors, other_doors, None)

    def test_the_least_list_that_parts(self):
        for doors, other_doors, wishes in (
            ((("pad", (1,)),), (), ()),
            ((("only", ()),), (), (1,)),
            ((("only", (1, 2, 3)),), (), (0, 1)),
            ((("only", (0, 1, 3)),), (), (2,)),
            ((("swap", ((0, 1),)),), (), (0,)),
            ((("lift", (0, 1, 3)),), (), (2,)),
            ((("head", (2,)),), (("pad", (2,)),), (0,)),
            ((("head", (0,)),), (), (1,)),
            ((("head", (2, 3)),), (("head", (3, 2)),), ()),
            ((("swap", ((1, 2), (2, 1))),), (), (1,)),
            ((("swap", ((2, 1),)), ("pad", (2,))), (("swap", ((2, 1), (3, 3))), ("head", (2,))), (0,)),
        ):
            self.assert_parting(TREE, doors, other_doors, wishes)

    def test_two_wishes_where_one_does_not_do(self):
        self.assert_parting((None, 0), (("only", (1,)),), (), (0, 1))
        self.assert_parting(CHAIN, (("only", (1, 2)),), (), (0, 1))
        for wishes in reference.lists_up_to(FORK, 1):
            one, two = Doors(FORK, ("only", (1, 2))), Doors(FORK)
            self.assertEqual(
                reference.slim(FORK, one(wishes)), reference.slim(FORK, two(wishes)))

    def test_all_doors_by_the_definition(self):
        for tree in reference.trees_up_to(3):
            lists = reference.lists_up_to(tree, 3)
            rows = [()] + [(door,) for door in reference.doors_of(tree, 1)]
            for doors in rows[::2]:
                for other_doors in rows[::3]:
                    want = reference.parted(tree, doors, other_doors, lists)
                    self.assert_parting(tree, doors, other_doors, want)

    def test_rows_of_two_by_the_definition(self):
        lists = reference.lists_up_to(FORK, 3)
        doors = reference.doors_of(FORK, 1)
        rows = list(product(doors[::3], doors[::4]))
        for at, row in enumerate(rows[::5]):
            other_row = rows[at * 7 % len(rows)]
            self.assert_parting(FORK, row, other_row, reference.parted(FORK, row, other_row, lists))

    def test_unequal_to_any_other_value(self):
        for doors in (Doors(TREE), Doors(TREE, ("only", (1,))), Doors((None,))):
            others = samples.any_values() + [doors.doors, doors.tree, (doors,), [doors]]
            for value in others:
                if type(value) is not Doors:
                    self.assertIs(doors == value, False)
                    self.assertIs(doors != value, True)
                    self.assertIs(value == doors, False)

    def test_other_trees(self):
        for tree, other_tree in ((TREE, FORK), ((None,), (None, 0)), (FORK, CHAIN)):
            one, two = Doors(tree), Doors(other_tree)
            self.assertIs(one == two, False)
            self.assertIs(one != two, True)
            with self.assertRaises(Unlike):
                one.parting(two)

    def test_parting_from_no_doors(self):
        doors = Doors(TREE)
        for value in samples.any_values():
            if type(value) is not Doors:
                with self.assertRaises(Unlike):
                    doors.parting(value)


class SameHere(unittest.TestCase):
    def test_in_catalogs_of_both_ways(self):
        lifting, nothing = Doors(TREE, ("lift", (0, 1, 3))), Doors(TREE)
        self.assertIs(lifting == nothing, False)
        for catalog, same in (
            (KEYED, False), (BUNDLED, False),
            (with_text(KEYED, 2, 1), True), (with_text(BUNDLED, 2, 1), True),
        ):
            self.assertIs(lifting.same_here(nothing, catalog), same, catalog)
            self.assertIs(nothing.same_here(lifting, catalog=catalog), same, catalog)

    def test_two_wishes_where_one_does_not_do(self):
        one, two = Doors((None, 0), ("only", (1,))), Doors((None, 0))
        for rows, keyed, bundled in (
            (((5,), (7,)), False, False),
            (((5,), (5,)), True, True),
            (((None,), (7,)), True, True),
            (((5,), (None,)), True, True),
            (((5, 6), (None, 7)), False, False),
        ):
            self.assertIs(one.same_here(two, ((None, 0), "key", rows)), keyed, rows)
            self.assertIs(one.same_here(two, ((None, 0), "bundle", rows)), bundled, rows)

    def test_the_ways_differ(self):
        # Behind a chosen wish the way "bundle" looks at none of those behind it.
        one, two = Doors(FORK, ("pad", (2,))), Doors(FORK, ("pad", (2,)), ("head", ()))
        self.assertIs(one.same_here(two, (FORK, "key", ((None,), (1,), (2,)))), True)
        one, two = Doors(FORK, ("head", (1, 2))), Doors(FORK, ("head", (1,)))
        rows = ((None, None), (1, None), (None, 2))
        self.assertIs(one.same_here(two, (FORK, "key", rows)), False)
        self.assertIs(one.same_here(two, (FORK, "bundle", rows)), True)

    def test_by_the_definition(self):
        for tree in (FORK, CHAIN):
            lists = reference.lists_up_to(tree, 3)
            doors = reference.doors_of(tree, 1)
            rows = [()] + [(door,) for door in doors] + list(zip(doors, doors[5:] + doors[:5]))
            for way in ("key", "bundle"):
                catalogs = reference.catalogs_of(tree, way, 1, (None, 4, 5))
                catalogs += reference.catalogs_of(tree, way, 2, (None, 4))[::5]
                for at, catalog in enumerate(catalogs):
                    for near in range(at, at + 40):
                        self.assert_same_here(catalog, rows[near % len(rows)],
                                              rows[near * 3 % len(rows)], lists)

    def assert_same_here(self, catalog, doors, other_doors, lists):
        tree = catalog[0]
        want = all(
            reference.shown_row(catalog, reference.behind(tree, doors, wishes))
            == reference.shown_row(catalog, reference.behind(tree, other_doors, wishes))
            for wishes in lists)
        got = Doors.of(tree, doors).same_here(Doors.of(tree, other_doors), catalog)
        self.assertIs(got, want, (catalog, doors, other_doors))

    def test_alike_rows_are_the_same_everywhere(self):
        one, two = Doors(TREE, ("head", (1,)), ("head", (2,))), Doors(TREE, ("head", (2, 1, 0)), ("swap", ()))
        self.assertIs(one == Doors(TREE, ("head", (2,))), True)
        for catalog in (KEYED, BUNDLED, EMPTY_ROOT):
            self.assertIs(one.same_here(Doors(TREE, ("head", (2,))), catalog), True)
        self.assertIs(one == two, False)

    def test_errors_in_their_sequence(self):
        doors, others = Doors(TREE), (Doors(FORK), None, (), "only", KEYED, ("only", ()))
        for other in others:
            for catalog in (KEYED, None, (FORK, "key", ((1,),) * 3)):
                with self.assertRaises(Unlike):
                    doors.same_here(other, catalog)
        for catalog in (None, (), list(KEYED), KEYED[:2], "key", (TREE, "key", ((1,),) * 3), doors):
            with self.assertRaises(InvalidCatalog):
                doors.same_here(doors, catalog)
        for catalog in ((FORK, "key", ((1,),) * 3), ((None,), "bundle", ((1,),))):
            with self.assertRaises(Unlike):
                doors.same_here(doors, catalog)


if __name__ == "__main__":
    unittest.main()
