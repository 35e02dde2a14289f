"""Point 10: shelves, their refusals, and what they tell; and point 3 of these."""

import itertools

from newnames.errors import Held, Missing, NoName
from newnames.shelves import Shelf
from tests.helpers import BAD_TEXTS, Case

THINGS = {"c": 7, "a": "pear", "b": 7, "aa": ""}


class Told(Case):

    def test_what_the_interface_lists_stands_there(self):
        self.assertEqual(Shelf.__module__, "newnames.shelves")
        for method in ("names", "told", "thing", "move", "drop"):
            self.assertIn(method, vars(Shelf))

    def test_the_empty_shelf(self):
        shelf = Shelf({})
        self.assertEqual(shelf.names(), [])
        self.assertEqual(shelf.told(), {})

    def test_names_rise(self):
        names = Shelf(THINGS).names()
        self.assertIs(type(names), list)
        self.assertEqual(names, ["a", "aa", "b", "c"])
        for mixed in itertools.permutations(THINGS):
            self.assertEqual(Shelf({name: 0 for name in mixed}).names(), ["a", "aa", "b", "c"])

    def test_all_is_told_names_rising(self):
        told = Shelf(THINGS).told()
        self.assertIs(type(told), dict)
        self.assertEqual(list(told.items()), [("a", "pear"), ("aa", ""), ("b", 7), ("c", 7)])

    def test_each_thing(self):
        shelf = Shelf(THINGS)
        for name, thing in THINGS.items():
            self.assertEqual(shelf.thing(name), thing)

    def test_things_that_are_easily_taken_for_nothing(self):
        shelf = Shelf({"a": 0, "b": "", "c": -1})
        self.assertEqual(shelf.thing("a"), 0)
        self.assertEqual(shelf.thing("b"), "")
        self.assertIsNone(shelf.move("a", "d"))
        self.assertIsNone(shelf.move("b", "a"))
        self.assertEqual(shelf.told(), {"a": "", "c": -1, "d": 0})
        self.assert_refused(Held, "d", shelf.move, "a", "d")
        self.assertIsNone(shelf.drop("d"))
        self.assertEqual(shelf.told(), {"a": "", "c": -1})


class Deeds(Case):

    def test_a_move(self):
        shelf = Shelf(THINGS)
        self.assertIsNone(shelf.move("a", "z"))
        self.assertEqual(list(shelf.told().items()),
                         [("aa", ""), ("b", 7), ("c", 7), ("z", "pear")])
        self.assertEqual(shelf.names(), ["aa", "b", "c", "z"])
        self.assertEqual(shelf.thing("z"), "pear")
        self.assert_refused(Missing, "a", shelf.thing, "a")

    def test_a_move_onto_the_least_name_is_told_first(self):
        shelf = Shelf({"b": 1, "c": 2})
        shelf.move("c", "a")
        self.assertEqual(list(shelf.told().items()), [("a", 2), ("b", 1)])
        self.assertEqual(shelf.names(), ["a", "b"])

    def test_a_move_there_and_back(self):
        shelf = Shelf(THINGS)
        shelf.move("a", "z")
        shelf.move("z", "a")
        self.assertEqual(shelf.told(), THINGS)

    def test_a_drop(self):
        shelf = Shelf(THINGS)
        self.assertIsNone(shelf.drop("b"))
        self.assertEqual(shelf.told(), {"a": "pear", "aa": "", "c": 7})
        self.assertEqual(shelf.names(), ["a", "aa", "c"])
        self.assert_refused(Missing, "b", shelf.thing, "b")

    def test_a_name_is_free_behind_a_drop_and_a_move(self):
        shelf = Shelf({"a": 1, "b": 2, "c": 3})
        shelf.drop("a")
        shelf.move("b", "a")
        shelf.move("c", "b")
        self.assertEqual(shelf.told(), {"a": 2, "b": 3})


class Refusals(Case):

    def assert_unmoved(self, kind, name, call, *handed):
        """It is refused, and nothing has changed."""
        shelf = Shelf(THINGS)
        self.assert_refused(kind, name, getattr(shelf, call), *handed)
        self.assertEqual(shelf.told(), THINGS)
        self.assertEqual(shelf.names(), sorted(THINGS))

    def test_things_under_what_is_no_name(self):
        for bad in BAD_TEXTS:
            self.assert_refused(NoName, None, Shelf, {bad: 1})
            self.assert_refused(NoName, None, Shelf, {"a": 1, bad: 2, "b": 3})
            self.assert_refused(NoName, None, Shelf, {"a": 1, "b": 2, bad: 3})

    def test_names_of_the_longest_kind_are_taken(self):
        self.assertEqual(Shelf({"abcdefgh": 1, "z": 2}).names(), ["abcdefgh", "z"])

    def test_a_thing_that_is_asked_for(self):
        for bad in BAD_TEXTS:
            self.assert_unmoved(NoName, None, "thing", bad)
        self.assert_unmoved(Missing, "d", "thing", "d")
        self.assert_unmoved(Missing, "plan", "thing", "plan")
        self.assert_refused(Missing, "a", Shelf({}).thing, "a")

    def test_a_move_of_what_is_no_name(self):
        for bad in BAD_TEXTS:
            for name in ("a", "z", "b"):
                self.assert_unmoved(NoName, None, "move", bad, name)
                self.assert_unmoved(NoName, None, "move", name, bad)
            self.assert_unmoved(NoName, None, "move", bad, bad)

    def test_a_move_from_a_name_that_is_not_held(self):
        self.assert_unmoved(Missing, "d", "move", "d", "e")
        # Ahead of Held, also of itself.
        self.assert_unmoved(Missing, "d", "move", "d", "a")
        self.assert_unmoved(Missing, "d", "move", "d", "d")

    def test_a_move_onto_a_name_that_is_held(self):
        self.assert_unmoved(Held, "b", "move", "a", "b")
        # Alike things, too, and a thing onto itself.
        self.assert_unmoved(Held, "c", "move", "b", "c")
        self.assert_unmoved(Held, "a", "move", "a", "a")

    def test_a_drop(self):
        for bad in BAD_TEXTS:
            self.assert_unmoved(NoName, None, "drop", bad)
        self.assert_unmoved(Missing, "d", "drop", "d")
        shelf = Shelf({"a": 1})
        shelf.drop("a")
        self.assert_refused(Missing, "a", shelf.drop, "a")


class Kept(Case):
    """Point 3 of shelves: what is handed in, and what is told."""

    def test_things_that_are_handed_in_stay_as_they_are(self):
        things = dict(THINGS)
        shelf = Shelf(things)
        shelf.move("a", "z")
        shelf.drop("b")
        self.assertEqual(list(things.items()), list(THINGS.items()))

    def test_what_is_refused_stays_as_it_is(self):
        things = {"a": 1, "B": 2}
        self.assert_refused(NoName, None, Shelf, things)
        self.assertEqual(things, {"a": 1, "B": 2})

    def test_things_changed_behind_change_no_shelf(self):
        things = dict(THINGS)
        shelf = Shelf(things)
        things["a"] = "plum"
        things["x"] = 1
        del things["b"]
        self.assertEqual(shelf.told(), THINGS)
        things.clear()
        self.assertEqual(shelf.told(), THINGS)

    def test_what_is_told_is_the_askers_own(self):
        shelf = Shelf(THINGS)
        told, names = shelf.told(), shelf.names()
        told["a"] = "plum"
        del told["b"]
        names.append("x")
        names.reverse()
        shelf.told().clear()
        shelf.names().clear()
        self.assertEqual(shelf.told(), THINGS)
        self.assertEqual(shelf.names(), sorted(THINGS))

    def test_deeds_change_nothing_that_was_told(self):
        shelf = Shelf(THINGS)
        told, names = shelf.told(), shelf.names()
        shelf.move("a", "z")
        shelf.drop("b")
        self.assertEqual(told, THINGS)
        self.assertEqual(names, sorted(THINGS))

    def test_two_shelves_of_one_dict_are_apart(self):
        one, other = Shelf(THINGS), Shelf(THINGS)
        one.move("a", "z")
        one.drop("b")
        self.assertEqual(other.told(), THINGS)
        again = Shelf(other.told())
        again.drop("c")
        self.assertEqual(other.told(), THINGS)
