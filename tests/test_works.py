"""Point 11: works, their logs and halves; and points 2 (a), (b) and 3 of these."""

from newnames import works
from newnames.deeds import deeds
from newnames.errors import Held, Missing, NoName
from newnames.plans import Plan
from newnames.shelves import Shelf
from newnames.works import begun, gone_on
from tests.helpers import (ALL_KINDS, BAD_TEXTS, RING, Case, done, ended, head_of, many_deeds,
                           ordinary_works, play_one)


class Begun(Case):

    def test_what_the_interface_lists_stands_there(self):
        for name in ("begun", "gone_on", "gone_back"):
            self.assertEqual(getattr(works, name).__module__, "newnames.works")
        work = begun(Shelf({}), Plan([]))
        self.assertEqual(type(work).__module__, "newnames.works")
        for method in ("log", "half"):
            self.assertIn(method, vars(type(work)))

    def test_none_of_its_deeds_is_done(self):
        for pairs, things, spare in ordinary_works():
            shelf = Shelf(things)
            work = begun(shelf, Plan(pairs), *spare)
            self.assertEqual(work.log(), head_of(pairs, *spare))
            self.assertEqual(shelf.told(), things)

    def test_the_log_of_all_kinds_of_pairs(self):
        shelf = Shelf({name: 1 for name in "abcdeg"})
        pairs = [("g", "h"), ("e", None), ("d", "e"), ("b", "a"), ("c", "c"), ("a", "b")]
        log = begun(shelf, Plan(pairs), "spare").log()
        self.assertIs(type(log), list)
        self.assertEqual(log, ["plan spare", "a b", "b a", "c c", "d e", "e -", "g h", "begin"])

    def test_the_log_with_and_without_a_spare_name(self):
        shelf = Shelf({"a": 1})
        self.assertEqual(begun(shelf, Plan([])).log(), ["plan", "begin"])
        self.assertEqual(begun(shelf, Plan([]), None).log(), ["plan", "begin"])
        self.assertEqual(begun(shelf, Plan([]), "s").log(), ["plan s", "begin"])
        self.assertEqual(begun(shelf, Plan([("a", "b")])).log(), ["plan", "a b", "begin"])
        # A spare name is told in the log also where no deed needs it.
        self.assertEqual(begun(shelf, Plan([("a", "b")]), "s").log(), ["plan s", "a b", "begin"])

    def test_a_spare_name_that_is_a_word_of_the_log(self):
        for spare in ("plan", "begin", "move", "drop"):
            log = begun(Shelf({"a": 1, "b": 2}), Plan(RING), spare).log()
            self.assertEqual(log, [f"plan {spare}", "a b", "b a", "begin"])


class Refusals(Case):

    def assert_unbegun(self, kind, name, pairs, names, *spare):
        shelf, plan = Shelf({each: 1 for each in names}), Plan(pairs)
        self.assert_refused(kind, name, begun, shelf, plan, *spare)
        self.assertEqual(shelf.names(), sorted(names))
        self.assertEqual(plan.pairs(), sorted(pairs))

    def test_as_fits(self):
        for spare in ([], ["s"], ["S"], ["a"]):
            self.assert_unbegun(Missing, "a", [("a", "b")], "c", *spare)
            self.assert_unbegun(Missing, "b", [("d", None), ("b", "c")], "a", *spare)
            self.assert_unbegun(Held, "c", [("a", "c")], "ac", *spare)
            self.assert_unbegun(Missing, "b", [("a", "c"), ("b", "d")], "ac", *spare)

    def test_the_spare_name(self):
        for bad in BAD_TEXTS:
            self.assert_unbegun(NoName, None, [], "a", bad)
            self.assert_unbegun(NoName, None, RING, "ab", bad)
        self.assert_unbegun(Held, "k", RING, "abk", "k")
        self.assert_unbegun(Held, "a", RING, "ab", "a")
        self.assert_unbegun(Held, "d", RING + [("c", "d")], "abc", "d")

    def test_no_spare_name_where_there_are_rings(self):
        shelf = Shelf({"a": 1, "b": 2, "x": 3, "y": 4})
        plan = Plan([("x", "y"), ("y", "x"), *RING])
        self.assert_no_spare(("a", "b"), begun, shelf, plan)
        self.assert_no_spare(("a", "b"), begun, shelf, plan, None)
        self.assertEqual(shelf.told(), {"a": 1, "b": 2, "x": 3, "y": 4})

    def test_the_names_held_are_those_of_now(self):
        shelf = Shelf({"a": 1, "b": 2})
        self.assert_refused(Held, "b", begun, shelf, Plan([("a", "b")]))
        shelf.drop("b")
        self.assertEqual(begun(shelf, Plan([("a", "b")])).half(), "row")
        shelf.move("a", "c")
        self.assert_refused(Missing, "a", begun, shelf, Plan([("a", "b")]))


class Halves(Case):

    def test_half_by_half_to_the_end(self):
        for pairs, things, spare in ordinary_works():
            shelf = Shelf(things)
            work = begun(shelf, Plan(pairs), *spare)
            log, left = work.log(), dict(things)
            for deed in deeds(Plan(pairs), list(things), *spare):
                self.assertEqual(work.half(), "row")
                log.append(" ".join(deed))
                self.assertEqual(work.log(), log)
                self.assertEqual(shelf.told(), left)
                self.assertEqual(work.half(), "deed")
                play_one(deed, left)
                self.assertEqual(work.log(), log)
                self.assertEqual(shelf.told(), left)
            self.assertEqual(shelf.told(), done(pairs, things))
            self.assert_at_end(work, shelf)

    def assert_at_end(self, work, shelf):
        log, told = work.log(), shelf.told()
        for _ in range(3):
            self.assertEqual(work.half(), "end")
            self.assertEqual(work.log(), log)
            self.assertEqual(shelf.told(), told)

    def test_as_many_halves_as_promised(self):
        for pairs, things, spare in ordinary_works():
            told = ended(begun(Shelf(things), Plan(pairs), *spare))
            self.assertEqual(told, ["row", "deed"] * many_deeds(pairs) + ["end"])

    def test_a_work_without_deeds_is_at_its_end(self):
        for pairs, names in (([], ""), ([], "ab"), ([("a", "a"), ("b", "b")], "abc")):
            for spare in ([], ["s"]):
                shelf = Shelf({name: 1 for name in names})
                work = begun(shelf, Plan(pairs), *spare)
                self.assert_at_end(work, shelf)
                self.assertEqual(work.log(), head_of(pairs, *spare))

    def test_the_shelf_that_is_kept_is_the_one_handed_in(self):
        shelf = Shelf({"a": 1})
        work = begun(shelf, Plan([("a", "b")]))
        ended(work)
        self.assertEqual(shelf.told(), {"b": 1})
        # Behind the end the shelf is the asker's: the work does nothing more to it.
        shelf.move("b", "a")
        self.assertEqual(work.half(), "end")
        self.assertEqual(shelf.told(), {"a": 1})

    def test_two_works_on_two_shelves_by_turns(self):
        shelves = [Shelf({"a": 1, "b": 2}), Shelf({"a": 3, "b": 4, "c": 5})]
        plans = [Plan(RING), Plan([("a", None), ("b", "a"), ("c", "b")])]
        one, other = begun(shelves[0], plans[0], "s"), begun(shelves[1], plans[1])
        for _ in range(6):
            self.assertNotEqual(one.half(), "end")
            self.assertNotEqual(other.half(), "end")
        self.assertEqual([one.half(), other.half()], ["end", "end"])
        self.assertEqual(shelves[0].told(), {"a": 2, "b": 1})
        self.assertEqual(shelves[1].told(), {"a": 4, "b": 5})
        self.assertEqual(one.log()[:4], ["plan s", "a b", "b a", "begin"])
        self.assertEqual(other.log(), ["plan", "a -", "b a", "c b", "begin", "drop a",
                                       "move b a", "move c b"])

    def test_two_works_of_one_plan_by_turns(self):
        plan = Plan(ALL_KINDS)
        things = [{name: index for index, name in enumerate("kabcdegxyz")},
                  {name: "pear" for name in "gedcbazyx"}]
        shelves = [Shelf(each) for each in things]
        both = [begun(shelf, plan, "s") for shelf in shelves]
        while both[0].half() != "end":
            both[1].half()
        self.assertEqual(both[1].half(), "end")
        self.assertEqual(both[0].log(), both[1].log())
        for shelf, each in zip(shelves, things):
            self.assertEqual(shelf.told(), done(ALL_KINDS, each))


class Kept(Case):
    """Point 3 of works: what is handed in, and what is told."""

    def test_a_plan_that_is_handed_in_stays_as_it_is(self):
        plan = Plan(ALL_KINDS)
        ended(begun(Shelf({name: 1 for name in "abcdegxyz"}), plan, "s"))
        self.assertEqual(plan.pairs(), ALL_KINDS)

    def test_a_log_that_is_told_is_the_askers_own(self):
        shelf = Shelf({"a": 1, "b": 2, "c": 3})
        work = begun(shelf, Plan([*RING, ("c", None)]), "s")
        while True:
            before = work.log()
            told = work.log()
            told.append("drop x")
            told[0] = "plan t"
            work.log().clear()
            self.assertEqual(work.log(), before)
            if work.half() == "end":
                break
        self.assertEqual(shelf.told(), {"a": 2, "b": 1})

    def test_a_log_told_ahead_is_not_changed_by_halves(self):
        work = begun(Shelf({"a": 1}), Plan([("a", "b")]))
        logs = [work.log()]
        for _ in range(3):
            work.half()
            logs.append(work.log())
        head = ["plan", "a b", "begin"]
        self.assertEqual(logs, [head] + [[*head, "move a b"]] * 3)

    def test_lists_of_the_plan_and_of_deeds_changed_behind_change_no_work(self):
        plan, shelf = Plan(RING), Shelf({"a": 1, "b": 2})
        work = begun(shelf, plan, "s")
        plan.pairs().clear()
        plan.rings().clear()
        deeds(plan, shelf.names(), "s").clear()
        shelf.names().clear()
        shelf.told().clear()
        self.assertEqual(ended(work), ["row", "deed"] * 3 + ["end"])
        self.assertEqual(shelf.told(), {"a": 2, "b": 1})

    def test_one_work_gone_on_with_does_not_change_another_ones_log(self):
        shelf = Shelf({"a": 1})
        work = begun(shelf, Plan([("a", "b")]))
        again = gone_on(shelf, work.log())
        again.half()
        self.assertEqual(work.log(), ["plan", "a b", "begin"])
        self.assertEqual(again.log(), ["plan", "a b", "begin", "move a b"])
