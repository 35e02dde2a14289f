"""Point 5: plans, their refusals, and what they tell; and point 3 of these."""

import itertools
import unittest

from newnames.errors import NoName, Twice
from newnames.plans import Plan
from tests.helpers import BAD_TEXTS, Case, raw_plans


class Refusals(Case):

    def test_an_old_name_that_is_none(self):
        for bad in BAD_TEXTS:
            self.assert_refused(NoName, None, Plan, [(bad, "a")])
            self.assert_refused(NoName, None, Plan, [(bad, None)])
            self.assert_refused(NoName, None, Plan, [("a", "b"), ("c", None), (bad, "d")])

    def test_a_new_name_that_is_none(self):
        for bad in BAD_TEXTS:
            self.assert_refused(NoName, None, Plan, [("a", bad)])
            self.assert_refused(NoName, None, Plan, [("a", "b"), ("c", None), ("d", bad)])

    def test_names_of_the_longest_kind_are_taken(self):
        pairs = [("abcdefgh", "zzzzzzzz"), ("z", "a")]
        self.assertEqual(Plan(pairs).pairs(), pairs)

    def test_an_old_name_twice(self):
        self.assert_refused(Twice, "a", Plan, [("a", "b"), ("a", "c")])
        self.assert_refused(Twice, "a", Plan, [("a", None), ("a", None)])
        self.assert_refused(Twice, "a", Plan, [("a", "a"), ("b", "c"), ("a", None)])

    def test_a_new_name_twice(self):
        self.assert_refused(Twice, "c", Plan, [("a", "c"), ("b", "c")])
        self.assert_refused(Twice, "a", Plan, [("a", "a"), ("b", "a")])
        self.assert_refused(Twice, "b", Plan, [("a", "b"), ("c", None), ("b", "b")])

    def test_none_twice_is_no_name_twice(self):
        pairs = [("a", None), ("b", None), ("c", None)]
        self.assertEqual(Plan(pairs).pairs(), pairs)

    def test_a_name_may_be_old_and_new(self):
        self.assertEqual(Plan([("a", "b"), ("b", "a")]).pairs(), [("a", "b"), ("b", "a")])
        self.assertEqual(Plan([("b", "c"), ("a", "b")]).pairs(), [("a", "b"), ("b", "c")])
        self.assertEqual(Plan([("a", "a")]).pairs(), [("a", "a")])

    def test_in_one_pair_no_name_comes_ahead_of_twice(self):
        self.assert_refused(NoName, None, Plan, [("a", "b"), ("a", "B")])
        self.assert_refused(NoName, None, Plan, [("a", "b"), ("A", "b")])

    def test_in_one_pair_the_old_name_comes_ahead_of_the_new_one(self):
        self.assert_refused(Twice, "b", Plan, [("b", "a"), ("b", "a")])
        self.assert_refused(Twice, "a", Plan, [("a", "b"), ("a", "b")])
        self.assert_refused(Twice, "c", Plan, [("a", "b"), ("c", "d"), ("c", "b")])

    def test_a_pair_ahead_comes_ahead(self):
        self.assert_refused(Twice, "a", Plan, [("a", "b"), ("a", "c"), ("A", "d")])
        self.assert_refused(Twice, "b", Plan, [("a", "b"), ("c", "b"), ("d", "D")])
        self.assert_refused(Twice, "b", Plan, [("a", "b"), ("c", "b"), ("a", "d")])
        self.assert_refused(Twice, "z", Plan, [("z", "y"), ("z", "x"), ("a", "y"), ("a", "b")])
        self.assert_refused(NoName, None, Plan, [("A", "b"), ("a", "b"), ("a", "c")])

    def test_what_is_refused_stays_as_it_is(self):
        pairs = [("b", "a"), ("a", "b"), ("b", "c")]
        self.assert_refused(Twice, "b", Plan, pairs)
        self.assertEqual(pairs, [("b", "a"), ("a", "b"), ("b", "c")])


class Told(Case):

    def test_what_the_interface_lists_stands_there(self):
        self.assertEqual(Plan.__module__, "newnames.plans")
        for method in ("pairs", "olds", "news", "to", "rings"):
            self.assertIn(method, vars(Plan))

    def test_the_plan_without_pairs(self):
        plan = Plan([])
        self.assertEqual(plan.pairs(), [])
        self.assertEqual(plan.olds(), [])
        self.assertEqual(plan.news(), [])
        self.assertEqual(plan.rings(), [])
        self.assertEqual(plan.to("a"), "a")

    def test_a_plan_of_every_kind_of_pair(self):
        plan = Plan([("x", None), ("d", "b"), ("s", "s"), ("b", "d"), ("f", "aa"), ("e", None)])
        self.assertEqual(plan.pairs(), [("b", "d"), ("d", "b"), ("e", None), ("f", "aa"),
                                        ("s", "s"), ("x", None)])
        self.assertEqual(plan.olds(), ["b", "d", "e", "f", "s", "x"])
        self.assertEqual(plan.news(), ["aa", "b", "d", "s"])
        self.assertEqual(plan.rings(), [("b", "d")])

    def test_pairs_are_tuples_in_a_list(self):
        told = Plan([("b", "a"), ("a", None)]).pairs()
        self.assertIs(type(told), list)
        self.assertEqual([type(pair) for pair in told], [tuple, tuple])

    def test_names_rise_as_texts_do(self):
        plan = Plan([("b", "ab"), ("ab", "a"), ("a", "b"), ("aa", "abc")])
        self.assertEqual(plan.olds(), ["a", "aa", "ab", "b"])
        self.assertEqual(plan.news(), ["a", "ab", "abc", "b"])

    def test_where_a_name_is_led(self):
        plan = Plan([("a", "b"), ("c", None), ("d", "d")])
        self.assertEqual(plan.to("a"), "b")
        self.assertIsNone(plan.to("c"))
        self.assertEqual(plan.to("d"), "d")
        # b is a new name alone, z neither.
        self.assertEqual(plan.to("b"), "b")
        self.assertEqual(plan.to("z"), "z")

    def test_the_order_of_the_pairs_is_all_one(self):
        pairs = [("a", "b"), ("b", "a"), ("c", None), ("d", "e")]
        for mixed in itertools.permutations(pairs):
            plan = Plan(list(mixed))
            self.assertEqual(plan.pairs(), pairs)
            self.assertEqual(plan.news(), ["a", "b", "e"])
            self.assertEqual(plan.rings(), [("a", "b")])


class Rings(Case):

    def test_a_ring_of_two(self):
        self.assertEqual(Plan([("b", "a"), ("a", "b")]).rings(), [("a", "b")])

    def test_a_ring_goes_the_way_that_it_leads(self):
        self.assertEqual(Plan([("a", "b"), ("b", "c"), ("c", "a")]).rings(), [("a", "b", "c")])
        self.assertEqual(Plan([("a", "c"), ("c", "b"), ("b", "a")]).rings(), [("a", "c", "b")])

    def test_a_ring_begins_with_its_least_name(self):
        pairs = [("d", "b"), ("b", "e"), ("e", "c"), ("c", "d")]
        for mixed in itertools.permutations(pairs):
            self.assertEqual(Plan(list(mixed)).rings(), [("b", "e", "c", "d")])

    def test_several_rings_rise_by_their_first_names(self):
        pairs = [("z", "b"), ("b", "z"), ("y", "c"), ("c", "x"), ("x", "y"), ("w", "a"),
                 ("a", "w")]
        self.assertEqual(Plan(pairs).rings(), [("a", "w"), ("b", "z"), ("c", "x", "y")])
        self.assertEqual(Plan(pairs[::-1]).rings(), [("a", "w"), ("b", "z"), ("c", "x", "y")])

    def test_what_stays_is_no_ring(self):
        self.assertEqual(Plan([("a", "a"), ("b", "b")]).rings(), [])
        self.assertEqual(Plan([("b", "b"), ("a", "c"), ("c", "a")]).rings(), [("a", "c")])

    def test_a_row_with_an_end_is_no_ring(self):
        self.assertEqual(Plan([("a", "b"), ("b", "c"), ("c", "d")]).rings(), [])
        self.assertEqual(Plan([("c", "b"), ("b", "a"), ("a", None)]).rings(), [])
        self.assertEqual(Plan([("b", "a"), ("a", "c"), ("c", None)]).rings(), [])
        self.assertEqual(Plan([("b", "c"), ("c", "a"), ("a", "d")]).rings(), [])

    def test_a_ring_beside_what_is_none(self):
        pairs = [("e", "d"), ("d", "f"), ("b", "c"), ("c", "b"), ("a", None), ("g", "a"),
                 ("h", "h")]
        self.assertEqual(Plan(pairs).rings(), [("b", "c")])

    def test_a_long_ring(self):
        names = [one + two for one in "abcdefghijklmnopqrstuvwxyz" for two in "abcdefghij"]
        shifted = names[1:] + names[:1]
        self.assertEqual(Plan(list(zip(names, shifted))).rings(), [tuple(names)])
        turned = [names[0]] + names[:0:-1]
        self.assertEqual(Plan(list(zip(shifted, names))).rings(), [tuple(turned)])

    def test_rings_are_tuples_in_a_list(self):
        told = Plan([("b", "a"), ("a", "b")]).rings()
        self.assertIs(type(told), list)
        self.assertIs(type(told[0]), tuple)

    def test_the_rings_of_every_small_plan(self):
        for pairs in raw_plans("abcd", "abcde"):
            leads = dict(pairs)
            expected = []
            for many in range(2, 5):
                for ring in itertools.permutations("abcd", many):
                    after = ring[1:] + ring[:1]
                    if ring[0] == min(ring) and all(
                            leads.get(old) == new for old, new in zip(ring, after)):
                        expected.append(ring)
            self.assertEqual(Plan(pairs).rings(), sorted(expected), pairs)


class Kept(Case):
    """Point 3 of plans: what is handed in, and what is told."""

    PAIRS = [("d", "b"), ("b", "d"), ("c", None), ("a", "e")]

    def told(self, plan):
        return [plan.pairs(), plan.olds(), plan.news(), plan.rings(), plan.to("a"), plan.to("c")]

    def test_what_is_handed_in_stays_as_it_is(self):
        pairs = list(self.PAIRS)
        self.told(Plan(pairs))
        self.assertEqual(pairs, self.PAIRS)

    def test_pairs_changed_behind_change_no_plan(self):
        pairs = list(self.PAIRS)
        plan = Plan(pairs)
        before = self.told(plan)
        pairs[3] = ("a", "z")
        pairs.append(("x", "y"))
        self.assertEqual(self.told(plan), before)
        pairs.clear()
        self.assertEqual(self.told(plan), before)

    def test_lists_that_are_told_are_the_askers_own(self):
        plan = Plan(self.PAIRS)
        before = self.told(plan)
        for ask in (plan.pairs, plan.olds, plan.news, plan.rings):
            first = ask()
            first.append("x")
            first[0] = "y"
            first.reverse()
            self.assertEqual(self.told(plan), before)
            ask().clear()
            self.assertEqual(self.told(plan), before)

    def test_lists_told_ahead_are_not_changed_by_asking_again(self):
        plan = Plan(self.PAIRS)
        first = plan.rings()
        plan.rings().append(("x", "y"))
        self.assertEqual(first, [("b", "d")])

    def test_two_plans_of_one_list_are_apart(self):
        one = Plan(self.PAIRS)
        other = Plan(self.PAIRS)
        one.pairs().clear()
        one.olds().clear()
        self.assertEqual(other.pairs(), sorted(self.PAIRS))


if __name__ == "__main__":
    unittest.main()
