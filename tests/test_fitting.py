"""Point 6: whether a plan fits, and what is held behind it; and point 3 of these."""

import itertools
import unittest

from newnames import plans
from newnames.errors import Held, Missing
from newnames.plans import Plan, behind, fits
from tests.helpers import Case, all_held, done, raw_plans


class Fitting(Case):

    def assert_fits(self, pairs, names, after):
        self.assertIsNone(fits(Plan(pairs), names))
        self.assertEqual(behind(Plan(pairs), names), after)

    def assert_unfit(self, kind, name, pairs, names):
        self.assert_refused(kind, name, fits, Plan(pairs), names)
        self.assert_refused(kind, name, behind, Plan(pairs), names)

    def test_they_are_defined_in_their_file(self):
        self.assertEqual(plans.fits.__module__, "newnames.plans")
        self.assertEqual(plans.behind.__module__, "newnames.plans")

    def test_free_names(self):
        self.assert_fits([("a", "b")], ["a"], ["b"])
        self.assert_fits([("c", "b"), ("a", "d")], ["z", "c", "a"], ["b", "d", "z"])

    def test_names_in_any_order(self):
        pairs = [("a", "b"), ("b", "c"), ("d", None)]
        for names in itertools.permutations(["a", "b", "d", "z", "e"]):
            self.assert_fits(pairs, list(names), ["b", "c", "e", "z"])

    def test_rings(self):
        self.assert_fits([("a", "b"), ("b", "a")], ["b", "a"], ["a", "b"])
        self.assert_fits([("a", "b"), ("b", "c"), ("c", "a"), ("x", "y"), ("y", "x")],
                         ["y", "x", "c", "b", "a", "k"], ["a", "b", "c", "k", "x", "y"])

    def test_things_let_go(self):
        self.assert_fits([("a", None)], ["a"], [])
        self.assert_fits([("a", None), ("c", None)], ["c", "b", "a"], ["b"])

    def test_a_name_that_is_let_go_is_free(self):
        self.assert_fits([("a", None), ("b", "a")], ["b", "a"], ["a"])

    def test_what_stays_has_to_be_there(self):
        self.assert_fits([("a", "a")], ["b", "a"], ["a", "b"])
        self.assert_unfit(Missing, "a", [("a", "a")], ["b"])
        self.assert_unfit(Missing, "a", [("a", "a")], [])

    def test_the_plan_without_pairs_fits_everywhere(self):
        self.assert_fits([], [], [])
        self.assert_fits([], ["c", "a", "b"], ["a", "b", "c"])

    def test_an_old_name_that_is_not_held(self):
        self.assert_unfit(Missing, "a", [("a", "b")], [])
        self.assert_unfit(Missing, "a", [("a", None)], ["b"])
        self.assert_unfit(Missing, "b", [("a", "b"), ("b", "a")], ["a"])
        self.assert_unfit(Missing, "b", [("a", "b"), ("b", "c")], ["a"])

    def test_of_several_missing_the_least_one(self):
        self.assert_unfit(Missing, "b", [("d", "x"), ("c", "w"), ("b", "y"), ("a", "z")],
                          ["a", "d"])

    def test_a_new_name_that_is_held(self):
        self.assert_unfit(Held, "b", [("a", "b")], ["a", "b"])
        self.assert_unfit(Held, "c", [("a", "b"), ("b", "c")], ["a", "b", "c"])
        self.assert_unfit(Held, "b", [("c", None), ("a", "b")], ["c", "b", "a"])

    def test_of_several_held_the_least_new_name(self):
        # Rising by the old names, y would be the first one.
        self.assert_unfit(Held, "x", [("a", "y"), ("b", "x"), ("c", "w")],
                          ["y", "x", "c", "b", "a"])

    def test_missing_comes_ahead_of_held(self):
        self.assert_unfit(Missing, "z", [("b", "a"), ("z", "y")], ["a", "b"])
        self.assert_unfit(Missing, "z", [("b", "a"), ("z", None)], ["a", "b", "y"])

    def test_every_small_plan_on_every_small_shelf(self):
        for pairs in raw_plans("abc", "abcd"):
            plan = Plan(pairs)
            for names in all_held("abcd"):
                after = done(pairs, {name: name for name in names})
                missing = sorted(old for old, new in pairs if old not in names)
                if after is not None:
                    self.assertIsNone(fits(plan, names))
                    self.assertEqual(behind(plan, names), sorted(after))
                elif missing:
                    self.assert_unfit(Missing, missing[0], pairs, names)
                else:
                    olds = [old for old, new in pairs]
                    held = sorted(new for old, new in pairs if new in names and new not in olds)
                    self.assert_unfit(Held, held[0], pairs, names)


class Kept(Case):
    """Point 3 of fitting: what is handed in, and what is told."""

    PAIRS = [("a", "b"), ("b", "a"), ("c", None)]

    def test_what_is_handed_in_stays_as_it_is(self):
        plan = Plan(self.PAIRS)
        names = ["c", "z", "b", "a"]
        fits(plan, names)
        behind(plan, names)
        self.assertEqual(names, ["c", "z", "b", "a"])
        self.assertEqual(plan.pairs(), self.PAIRS)

    def test_what_is_refused_changes_nothing(self):
        plan = Plan([("b", "c"), ("a", "d")])
        for names in (["b"], ["d", "b", "a"]):
            before = list(names)
            for ask in (fits, behind):
                with self.assertRaises(ValueError):
                    ask(plan, names)
                self.assertEqual(names, before)
                self.assertEqual(plan.pairs(), [("a", "d"), ("b", "c")])

    def test_a_list_that_is_told_is_the_askers_own(self):
        for pairs in (self.PAIRS, []):
            plan = Plan(pairs)
            names = ["a", "b", "c"]
            told = behind(plan, names)
            after = list(told)
            told.append("x")
            told[0] = "y"
            self.assertEqual(names, ["a", "b", "c"])
            self.assertEqual(behind(plan, names), after)
            self.assertEqual(plan.pairs(), pairs)

    def test_names_changed_behind_change_no_list_that_was_told(self):
        for pairs in (self.PAIRS, []):
            names = ["a", "b", "c"]
            told = behind(Plan(pairs), names)
            after = list(told)
            names.clear()
            self.assertEqual(told, after)


if __name__ == "__main__":
    unittest.main()
