"""Points 7, 8 and 2 (c): plans put behind one another, and turned; and point 3 of these."""

import unittest

from newnames import joining
from newnames.errors import Held, LetGo, Missing
from newnames.joining import joined, turned
from newnames.plans import Plan, behind, fits
from tests.helpers import Case, all_held, done, raw_plans


class Joining(Case):

    def assert_joined(self, one, other, pairs):
        plan = joined(Plan(one), Plan(other))
        self.assertIs(type(plan), Plan)
        self.assertEqual(plan.pairs(), pairs)

    def assert_unjoined(self, kind, name, one, other):
        self.assert_refused(kind, name, joined, Plan(one), Plan(other))

    def test_it_is_defined_in_its_file(self):
        self.assertEqual(joining.joined.__module__, "newnames.joining")

    def test_plans_that_have_nothing_in_common(self):
        self.assert_joined([("c", "d")], [("a", "b")], [("a", "b"), ("c", "d")])

    def test_the_plan_without_pairs(self):
        pairs = [("a", "b"), ("b", "a"), ("c", None), ("d", "d")]
        self.assert_joined([], [], [])
        self.assert_joined(pairs, [], pairs)
        self.assert_joined([], pairs, pairs)

    def test_a_new_name_of_one_is_an_old_name_of_other(self):
        self.assert_joined([("a", "b")], [("b", "c")], [("a", "c")])
        self.assert_joined([("a", "b")], [("b", "c"), ("x", "y")], [("a", "c"), ("x", "y")])

    def test_a_new_name_of_other_is_an_old_name_of_one(self):
        self.assert_joined([("a", "b")], [("c", "a")], [("a", "b"), ("c", "a")])

    def test_there_and_back_stays(self):
        self.assert_joined([("a", "b")], [("b", "a")], [("a", "a")])

    def test_one_lets_go(self):
        self.assert_joined([("a", None)], [], [("a", None)])
        self.assert_joined([("a", None)], [("b", "a")], [("a", None), ("b", "a")])
        self.assert_joined([("a", None), ("b", "a")], [("a", "c")], [("a", None), ("b", "c")])

    def test_other_lets_go(self):
        self.assert_joined([("a", "b")], [("b", None)], [("a", None)])
        self.assert_joined([("a", "b")], [("c", None)], [("a", "b"), ("c", None)])
        self.assert_joined([("a", "b")], [("b", None), ("c", "b")], [("a", None), ("c", "b")])

    def test_both_let_go(self):
        self.assert_joined([("a", None), ("b", "a")], [("a", None)], [("a", None), ("b", None)])

    def test_what_stays(self):
        self.assert_joined([("a", "a")], [("a", "b")], [("a", "b")])
        self.assert_joined([("a", "b")], [("b", "b")], [("a", "b")])
        self.assert_joined([("a", "a")], [("a", "a")], [("a", "a")])
        self.assert_joined([("a", "a")], [("b", "b")], [("a", "a"), ("b", "b")])
        self.assert_joined([("a", "a")], [("a", None), ("b", "a")], [("a", None), ("b", "a")])

    def test_rings(self):
        ring = [("a", "b"), ("b", "c"), ("c", "a")]
        self.assert_joined(ring, ring, [("a", "c"), ("b", "a"), ("c", "b")])
        self.assert_joined(ring, [("a", "c"), ("c", "a")], [("a", "b"), ("b", "a"), ("c", "c")])
        # A ring may come of two plans that have none.
        self.assert_joined([("a", "s"), ("b", "a")], [("s", "b")], [("a", "b"), ("b", "a")])
        self.assert_joined([("a", "b"), ("b", "a")], [("c", "d"), ("d", "c")],
                           [("a", "b"), ("b", "a"), ("c", "d"), ("d", "c")])

    def test_an_old_name_of_other_that_one_left(self):
        self.assert_unjoined(Missing, "a", [("a", "b")], [("a", "c")])
        self.assert_unjoined(Missing, "a", [("a", "b")], [("a", None)])
        self.assert_unjoined(Missing, "a", [("a", "b")], [("a", "a")])
        self.assert_unjoined(Missing, "a", [("a", None)], [("a", "c")])
        self.assert_unjoined(Missing, "a", [("a", None)], [("b", "d"), ("a", None)])

    def test_of_several_missing_the_least_one(self):
        self.assert_unjoined(Missing, "b", [("c", "x"), ("b", "y"), ("a", "z")],
                             [("d", "i"), ("c", "j"), ("b", "k")])

    def test_a_new_name_of_other_that_one_took(self):
        self.assert_unjoined(Held, "b", [("a", "b")], [("c", "b")])
        self.assert_unjoined(Held, "a", [("a", "a")], [("b", "a")])
        self.assert_unjoined(Held, "a", [("a", "b"), ("b", "a")], [("b", "c"), ("d", "a")])

    def test_of_several_held_the_least_new_name(self):
        # Rising by the old names, y would be the first one.
        self.assert_unjoined(Held, "x", [("a", "x"), ("b", "y"), ("c", "z")],
                             [("i", "y"), ("j", "x"), ("k", "z")])

    def test_missing_comes_ahead_of_held(self):
        self.assert_unjoined(Missing, "z", [("z", "a")], [("b", "a"), ("z", "c")])
        self.assert_unjoined(Missing, "b", [("b", "a")], [("b", "a")])

    def test_every_two_small_plans_on_every_small_shelf(self):
        shelves = [{name: index for index, name in enumerate(names)} for names in all_held("abcd")]
        for one in raw_plans("abc", "abcd"):
            between = [(things, done(one, things)) for things in shelves]
            between = [row for row in between if row[1] is not None]
            for other in raw_plans("abd", "acd"):
                behind_both = [(things, done(other, middle)) for things, middle in between]
                behind_both = [row for row in behind_both if row[1] is not None]
                self.check_two(one, other, behind_both)

    def check_two(self, one, other, behind_both):
        left, reached = [old for old, new in one], [new for old, new in one]
        missing = sorted(old for old, new in other if old in left and old not in reached)
        freed = [old for old, new in other]
        held = sorted(new for old, new in other
                      if new is not None and new in reached and new not in freed)
        if missing or held:
            self.assertEqual(behind_both, [])
            kind, names = (Missing, missing) if missing else (Held, held)
            self.assert_unjoined(kind, names[0], one, other)
            return
        plan = joined(Plan(one), Plan(other))
        self.assertEqual(plan.olds(), sorted(left + [old for old in freed if old not in reached]))
        for things, after in behind_both:
            self.assertEqual(done(plan.pairs(), things), after, (one, other))
            self.assertIsNone(fits(plan, list(things)))


class Turning(Case):

    def assert_turned(self, pairs, back):
        plan = turned(Plan(pairs))
        self.assertIs(type(plan), Plan)
        self.assertEqual(plan.pairs(), back)
        self.assertEqual(turned(plan).pairs(), sorted(pairs))

    def test_it_is_defined_in_its_file(self):
        self.assertEqual(joining.turned.__module__, "newnames.joining")

    def test_free_names(self):
        self.assert_turned([("a", "b")], [("b", "a")])
        self.assert_turned([("a", "z"), ("b", "y"), ("c", "b")],
                           [("b", "c"), ("y", "b"), ("z", "a")])

    def test_the_plan_without_pairs(self):
        self.assert_turned([], [])

    def test_what_stays(self):
        self.assert_turned([("a", "a"), ("b", "c")], [("a", "a"), ("c", "b")])

    def test_rings(self):
        self.assert_turned([("a", "b"), ("b", "a")], [("a", "b"), ("b", "a")])
        self.assert_turned([("a", "b"), ("b", "c"), ("c", "a")],
                           [("a", "c"), ("b", "a"), ("c", "b")])
        self.assert_turned([("a", "b"), ("b", "a"), ("z", "x"), ("x", "y"), ("y", "z")],
                           [("a", "b"), ("b", "a"), ("x", "z"), ("y", "x"), ("z", "y")])

    def test_what_is_let_go(self):
        self.assert_refused(LetGo, "a", turned, Plan([("a", None)]))
        self.assert_refused(LetGo, "b", turned, Plan([("a", "b"), ("b", None)]))

    def test_of_several_let_go_the_least_one(self):
        self.assert_refused(LetGo, "b", turned,
                            Plan([("d", None), ("c", None), ("b", None), ("a", "e")]))

    def test_turned_it_takes_every_small_plan_back(self):
        for pairs in raw_plans("abc", "abcd"):
            plan = Plan(pairs)
            gone = sorted(old for old, new in pairs if new is None)
            if gone:
                self.assert_refused(LetGo, gone[0], turned, plan)
                continue
            back = turned(plan)
            self.assertEqual(turned(back).pairs(), pairs)
            self.assertEqual(joined(plan, back).pairs(), [(old, old) for old, new in pairs])
            for names in all_held("abcd"):
                things = {name: index for index, name in enumerate(names)}
                middle = done(pairs, things)
                if middle is not None:
                    self.assertEqual(done(back.pairs(), middle), things)
                    self.assertEqual(behind(back, behind(plan, names)), names)


class Kept(Case):
    """Point 3 of joining and turning: what is handed in, and what is told."""

    def test_plans_that_are_handed_in_stay_as_they_are(self):
        one = Plan([("a", "b"), ("b", "a"), ("c", "d")])
        other = Plan([("b", "x"), ("d", None), ("e", "c")])
        joined(one, other)
        turned(one)
        self.assertEqual(one.pairs(), [("a", "b"), ("b", "a"), ("c", "d")])
        self.assertEqual(other.pairs(), [("b", "x"), ("d", None), ("e", "c")])

    def test_what_is_refused_changes_nothing(self):
        one = Plan([("a", "b"), ("c", None)])
        other = Plan([("a", "d")])
        self.assert_refused(Missing, "a", joined, one, other)
        self.assert_refused(Held, "b", joined, one, Plan([("d", "b")]))
        self.assert_refused(LetGo, "c", turned, one)
        self.assertEqual(one.pairs(), [("a", "b"), ("c", None)])
        self.assertEqual(other.pairs(), [("a", "d")])

    def test_lists_of_a_plan_that_is_made_are_the_askers_own(self):
        one = Plan([("a", "b"), ("b", "a")])
        for plan in (joined(one, Plan([])), joined(Plan([]), one), turned(one)):
            plan.pairs().clear()
            plan.olds().append("x")
            plan.news().clear()
            plan.rings().clear()
            for each in (plan, one):
                self.assertEqual(each.pairs(), [("a", "b"), ("b", "a")])
                self.assertEqual(each.olds(), ["a", "b"])
                self.assertEqual(each.news(), ["a", "b"])
                self.assertEqual(each.rings(), [("a", "b")])


if __name__ == "__main__":
    unittest.main()
