"""Points 9 and 2 (a), (b): the deeds of a plan, played on plain dicts; and point 3 of these."""

import itertools

from newnames import deeds as deeds_file
from newnames.deeds import deeds
from newnames.errors import Held, Missing, NoName
from newnames.plans import Plan
from tests.helpers import (BAD_TEXTS, RING, Case, all_held, done, many_deeds, named_things, play,
                           play_one, raw_plans, raw_rings)


class Playing(Case):

    def assert_done(self, pairs, names, *spare):
        """The deeds do the plan on these names, one by one, and are as many as promised."""
        things = named_things(names)
        told = deeds(Plan(pairs), names, *spare)
        self.assertIs(type(told), list)
        self.assertEqual(play(told, things), done(pairs, things), pairs)
        self.assertEqual(len(told), many_deeds(pairs), pairs)
        self.check_spare(told, pairs, things, *spare)

    def check_spare(self, told, pairs, things, spare=None):
        """The spare name is held only between two deeds that go round one ring."""
        ring_of = {name: ring for ring in raw_rings(pairs) for name in ring}
        left = dict(things)
        for deed, following in zip(told, told[1:] + [None]):
            play_one(deed, left)
            if spare in left:
                self.assertIsNotNone(following, told)
                rings = {ring_of.get(name) for each in (deed, following) for name in each[1:]
                         if name != spare}
                self.assertEqual(len(rings), 1, told)
                self.assertNotIn(None, rings, told)
        onto_spare = [deed for deed in told if deed[0] == "move" and deed[2] == spare]
        off_spare = [deed for deed in told if deed[1] == spare]
        self.assertEqual(len(onto_spare), len(raw_rings(pairs)), told)
        self.assertEqual(len(off_spare), len(raw_rings(pairs)), told)

    def test_it_is_defined_in_its_file(self):
        self.assertEqual(deeds_file.deeds.__module__, "newnames.deeds")

    def test_the_plan_without_pairs(self):
        self.assertEqual(deeds(Plan([]), []), [])
        self.assertEqual(deeds(Plan([]), ["b", "a"]), [])
        self.assertEqual(deeds(Plan([]), ["b", "a"], "s"), [])

    def test_one_pair(self):
        self.assertEqual(deeds(Plan([("a", "b")]), ["a"]), [("move", "a", "b")])
        self.assertEqual(deeds(Plan([("a", None)]), ["z", "a"]), [("drop", "a")])

    def test_what_stays_takes_no_deed(self):
        self.assertEqual(deeds(Plan([("a", "a")]), ["a"]), [])
        self.assertEqual(deeds(Plan([("a", "a"), ("b", "b")]), ["b", "a"], "s"), [])
        self.assertEqual(deeds(Plan([("a", "a"), ("b", "c")]), ["b", "a"]), [("move", "b", "c")])

    def test_free_names(self):
        self.assert_done([("a", "z"), ("c", "y"), ("b", "x")], ["c", "b", "a", "k"])

    def test_chains(self):
        self.assertEqual(deeds(Plan([("a", "b"), ("b", "c")]), ["a", "b"]),
                         [("move", "b", "c"), ("move", "a", "b")])
        self.assert_done([("a", "b"), ("b", "c"), ("c", "d")], ["c", "a", "b"])
        self.assert_done([("d", "c"), ("c", "b"), ("b", "a")], ["c", "d", "b"])
        self.assert_done([("a", "c"), ("c", "b"), ("b", "d"), ("y", "x"), ("z", "y")],
                         ["a", "b", "c", "k", "y", "z"])

    def test_chains_with_a_thing_let_go_at_the_end(self):
        self.assertEqual(deeds(Plan([("a", None), ("b", "a")]), ["a", "b"]),
                         [("drop", "a"), ("move", "b", "a")])
        self.assert_done([("a", "b"), ("b", "c"), ("c", None)], ["c", "a", "b"])
        self.assert_done([("a", "b"), ("b", None), ("d", "c"), ("c", None), ("e", None)],
                         ["e", "d", "c", "b", "a"])

    def test_a_ring(self):
        self.assert_done(RING, ["a", "b"], "s")
        self.assert_done([("a", "b"), ("b", "c"), ("c", "a")], ["c", "b", "a"], "s")
        self.assert_done([("a", "c"), ("c", "b"), ("b", "a")], ["c", "b", "a", "k"], "s")
        self.assert_done([("a", "d"), ("d", "b"), ("b", "c"), ("c", "a")], list("dbca"), "aa")

    def test_several_rings(self):
        self.assert_done(RING + [("x", "y"), ("y", "x")], ["a", "b", "x", "y"], "s")
        self.assert_done([("a", "x"), ("x", "b"), ("b", "a"), ("y", "c"), ("c", "y"), ("d", "z"),
                          ("e", "d"), ("z", "e")], list("abcdexyzk"), "m")

    def test_all_kinds_of_pairs(self):
        pairs = RING + [("c", "c"), ("d", "e"), ("e", "f"), ("g", None), ("h", "g"), ("i", None),
                        ("x", "y"), ("y", "z"), ("z", "x")]
        self.assert_done(pairs, list("abcdeghixyzk"), "spare")
        self.assert_done(pairs, list("kzyxihgedcba"), "l")

    def test_a_spare_name_where_there_are_no_rings_stands_in_no_deed(self):
        for pairs in ([], [("a", "b")], [("a", "b"), ("b", None)], [("a", "a"), ("b", "c")]):
            names = sorted(old for old, new in pairs)
            self.assert_done(pairs, names, "s")
            self.assertEqual(deeds(Plan(pairs), names, "s"), deeds(Plan(pairs), names))

    def test_a_spare_name_that_is_told_to_be_none(self):
        self.assertEqual(deeds(Plan([("a", "b")]), ["a"], None), [("move", "a", "b")])
        self.assert_no_spare(("a", "b"), deeds, Plan(RING), ["a", "b"], None)

    def test_it_hangs_on_plan_and_spare_name_alone(self):
        pairs = RING + [("c", "d"), ("d", "e"), ("f", None), ("g", "f")]
        names = ["a", "b", "c", "d", "f", "g"]
        expected = deeds(Plan(pairs), names, "s")
        for mixed in itertools.permutations(pairs[:4]):
            self.assertEqual(deeds(Plan([*pairs[4:], *mixed]), names, "s"), expected)
        for mixed in itertools.permutations(names):
            self.assertEqual(deeds(Plan(pairs), list(mixed), "s"), expected)
        for more in (["h"], ["aa", "z", "h"], ["bb", "t"]):
            self.assertEqual(deeds(Plan(pairs), more + names, "s"), expected)
            self.assertEqual(deeds(Plan(pairs), names + more, "s"), expected)

    def test_long_chains_and_rings(self):
        names = [one + two + three for one in "abcdefghij" for two in "abcdefghij"
                 for three in "abcdefghijklmnopqrst"]
        self.assert_long(list(zip(names, names[1:] + ["zz"])), names)
        self.assert_long(list(zip(names[1:], names)) + [(names[0], None)], names)
        self.assert_long(list(zip(names, names[1:] + names[:1])), names)

    def assert_long(self, pairs, names):
        things = named_things(names)
        told = deeds(Plan(pairs), names, "s")
        self.assertEqual(play(told, things), done(pairs, things))
        self.assertIn(len(told), (len(names), len(names) + 1))

    def test_every_small_plan_on_every_small_shelf(self):
        for pairs in raw_plans("abc", "abcd"):
            ringed = bool(raw_rings(pairs))
            for names in all_held("abcd"):
                if done(pairs, named_things(names)) is None:
                    continue
                self.assert_done(pairs, names, "s")
                if not ringed:
                    self.assert_done(pairs, names)

    def test_every_plan_that_puts_five_things_elsewhere(self):
        for news in itertools.permutations("abcdef", 5):
            self.assert_done(list(zip("abcde", news)), list("abcde"), "s")


class Refusals(Case):

    def test_as_fits(self):
        for spare in ([], ["s"], [None]):
            self.assert_refused(Missing, "a", deeds, Plan([("a", "b")]), [], *spare)
            self.assert_refused(Missing, "a", deeds, Plan([("a", "a")]), ["b"], *spare)
            self.assert_refused(Missing, "b", deeds, Plan([("c", None), ("b", None)]), [], *spare)
            self.assert_refused(Held, "b", deeds, Plan([("a", "b")]), ["b", "a"], *spare)
            self.assert_refused(Held, "x", deeds, Plan([("a", "y"), ("b", "x")]),
                                ["y", "x", "b", "a"], *spare)
            self.assert_refused(Missing, "z", deeds, Plan([("b", "a"), ("z", "y")]), ["a", "b"],
                                *spare)

    def test_a_spare_name_that_is_none(self):
        for bad in BAD_TEXTS:
            for pairs in ([], [("a", "c")], RING):
                self.assert_refused(NoName, None, deeds, Plan(pairs), ["a", "b"], bad)

    def test_a_spare_name_that_is_held(self):
        self.assert_refused(Held, "k", deeds, Plan([]), ["k"], "k")
        self.assert_refused(Held, "k", deeds, Plan([("a", "c")]), ["a", "k"], "k")
        self.assert_refused(Held, "k", deeds, Plan(RING), ["k", "a", "b"], "k")

    def test_a_spare_name_that_is_an_old_name_is_held(self):
        self.assert_refused(Held, "a", deeds, Plan([("a", "c")]), ["a"], "a")
        self.assert_refused(Held, "a", deeds, Plan([("a", None)]), ["a"], "a")
        self.assert_refused(Held, "b", deeds, Plan(RING), ["a", "b"], "b")

    def test_a_spare_name_that_is_a_new_name(self):
        self.assert_refused(Held, "c", deeds, Plan([("a", "c")]), ["a"], "c")
        self.assert_refused(Held, "d", deeds, Plan(RING + [("c", "d")]), ["a", "b", "c"], "d")

    def test_no_spare_name_where_there_are_rings(self):
        self.assert_no_spare(("a", "b"), deeds, Plan(RING), ["b", "a"])
        self.assert_no_spare(("a", "c", "b"), deeds, Plan([("c", "b"), ("b", "a"), ("a", "c")]),
                             ["b", "a", "c"])
        self.assert_no_spare(("b", "z"), deeds,
                             Plan([("y", "x"), ("x", "y"), ("z", "b"), ("b", "z"), ("a", "a")]),
                             list("abxyz"))

    def test_fits_comes_ahead_of_the_spare_name(self):
        for spare in ("S", "", "a", "c"):
            self.assert_refused(Missing, "b", deeds, Plan([("a", "c"), ("b", None)]), ["a"], spare)
            self.assert_refused(Held, "c", deeds, Plan([("a", "c")]), ["a", "c"], spare)
        self.assert_refused(Missing, "b", deeds, Plan(RING), ["a"])
        self.assert_refused(Held, "d", deeds, Plan(RING + [("c", "d")]), list("abcd"))

    def test_every_small_ring_without_a_spare_name(self):
        for pairs in raw_plans("abcd", "abcd"):
            if raw_rings(pairs) and done(pairs, named_things("abcd")) is not None:
                self.assert_no_spare(Plan(pairs).rings()[0], deeds, Plan(pairs), list("dbca"))
                self.assertEqual(set(Plan(pairs).rings()[0]), set(min(raw_rings(pairs), key=min)))


class Kept(Case):
    """Point 3 of deeds: what is handed in, and what is told."""

    PAIRS = RING + [("c", None), ("d", "d"), ("e", "f")]

    def test_what_is_handed_in_stays_as_it_is(self):
        plan, names = Plan(self.PAIRS), ["e", "z", "b", "a", "d", "c"]
        deeds(plan, names, "s")
        self.assertEqual(names, ["e", "z", "b", "a", "d", "c"])
        self.assertEqual(plan.pairs(), self.PAIRS)

    def test_what_is_refused_changes_nothing(self):
        plan = Plan(self.PAIRS)
        for names, spare in ((["b"], None), (["f", *"abcde"], "s"), (list("edcba"), None),
                             (list("edcba"), "S"), (list("edcba"), "a"), (list("edcba"), "f")):
            before = list(names)
            with self.assertRaises(ValueError):
                deeds(plan, names, spare)
            self.assertEqual(names, before)
            self.assertEqual(plan.pairs(), self.PAIRS)

    def test_a_list_that_is_told_is_the_askers_own(self):
        plan, names = Plan(self.PAIRS), list("abcde")
        told = deeds(plan, names, "s")
        before = list(told)
        told.append(("drop", "x"))
        told[0] = ("drop", "y")
        told.reverse()
        self.assertEqual(deeds(plan, names, "s"), before)
        deeds(plan, names, "s").clear()
        self.assertEqual(deeds(plan, names, "s"), before)
        self.assertEqual(names, list("abcde"))
        self.assertEqual(plan.pairs(), self.PAIRS)
        self.assertEqual(plan.rings(), [("a", "b")])

    def test_names_changed_behind_change_no_list_that_was_told(self):
        names = list("abcde")
        told = deeds(Plan(self.PAIRS), names, "s")
        before = list(told)
        names.clear()
        self.assertEqual(told, before)
