"""Points 12 and 2 (d): works cut off at every place, gone on with, and taken back; and point 3."""

import itertools

from newnames.deeds import deeds
from newnames.errors import LetGo
from newnames.plans import Plan
from newnames.shelves import Shelf
from newnames.works import begun, gone_back, gone_on
from tests.helpers import (ALL_KINDS, RING, Case, all_held, done, ended, head_of, named_things,
                           ordinary_works, play, raw_plans)


def small_works():
    """Every small plan on every small shelf, with a spare name."""
    for pairs in raw_plans("abc", "abcd"):
        for names in all_held("abcd"):
            if done(pairs, named_things(names)) is not None:
                yield pairs, named_things(names), ("s",)


def all_works():
    yield from ordinary_works()
    yield from small_works()


def cuts(pairs, things, spare):
    """A work, its shelf, and how many halves it has done, for each place to cut it off."""
    many = 2 * len(deeds(Plan(pairs), list(things), *spare))
    for halves in range(many + 1):
        shelf = Shelf(things)
        work = begun(shelf, Plan(pairs), *spare)
        for _ in range(halves):
            work.half()
        yield work, shelf, halves


def both_shelves(shelf):
    """One made of what the shelf told, and the shelf itself."""
    yield Shelf(shelf.told())
    yield shelf


class GoneOn(Case):

    def assert_goes_on(self, work, shelf, halves, uncut):
        """The work goes on there half by half, as the one that was not cut off."""
        log, told, states = uncut
        self.assertEqual(work.log(), log[halves])
        for half in range(halves, len(told)):
            self.assertEqual(shelf.told(), states[half])
            self.assertEqual(work.half(), told[half])
            self.assertEqual(work.log(), log[min(half + 1, len(log) - 1)])
        self.assertEqual(shelf.told(), states[-1])

    def uncut(self, pairs, things, spare):
        """The logs, the told halves, and the shelf's things, ahead of each half and at the end."""
        shelf = Shelf(things)
        work = begun(shelf, Plan(pairs), *spare)
        log, told, states = [work.log()], [], [shelf.told()]
        while told[-1:] != ["end"]:
            told.append(work.half())
            log.append(work.log())
            states.append(shelf.told())
        return log, told, states

    def test_cut_at_every_place_it_ends_as_the_one_that_was_not(self):
        for pairs, things, spare in all_works():
            uncut = self.uncut(pairs, things, spare)
            for work, shelf, halves in cuts(pairs, things, spare):
                before = shelf.told()
                for other in both_shelves(shelf):
                    again = gone_on(other, work.log())
                    self.assertIs(type(again), type(work))
                    self.assertEqual(other.told(), before)
                    self.assert_goes_on(again, other, halves, uncut)

    def test_gone_on_with_several_times(self):
        for pairs, things, spare in all_works():
            uncut = self.uncut(pairs, things, spare)
            shelf = Shelf(things)
            work = begun(shelf, Plan(pairs), *spare)
            for halves in range(len(uncut[1])):
                work = gone_on(shelf, gone_on(shelf, work.log()).log())
                self.assertEqual(work.log(), uncut[0][halves])
                self.assertEqual(work.half(), uncut[1][halves])
                shelf = Shelf(shelf.told())
            self.assertEqual(shelf.told(), done(pairs, things))

    def test_gone_on_with_every_two_halves_and_every_three(self):
        for pairs, things, spare in ordinary_works():
            for many in (2, 3):
                shelf = Shelf(things)
                work = begun(shelf, Plan(pairs), *spare)
                while "end" not in [work.half() for _ in range(many)]:
                    work = gone_on(shelf, work.log())
                self.assertEqual(shelf.told(), done(pairs, things))

    def test_the_last_rows_deed_is_done_next_if_it_was_not(self):
        log = ["plan", "a b", "begin", "move a b"]
        shelf = Shelf({"a": 1})
        self.assertEqual(gone_on(shelf, log).half(), "deed")
        self.assertEqual(shelf.told(), {"b": 1})
        self.assertEqual(gone_on(shelf, log).half(), "end")
        log = ["plan", "a -", "b a", "begin", "drop a"]
        shelf = Shelf({"a": 1, "b": 1})
        self.assertEqual(gone_on(shelf, log).half(), "deed")
        self.assertEqual(shelf.told(), {"b": 1})
        work = gone_on(shelf, log)
        self.assertEqual(work.half(), "row")
        self.assertEqual(work.log(), [*log, "move b a"])

    def test_pairs_rows_in_any_order(self):
        pairs = [*RING, ("c", "d"), ("d", None)]
        things = named_things("abcdk")
        uncut = self.uncut(pairs, things, ["s"])
        for mixed in itertools.permutations(head_of(pairs)[1:-1]):
            head = ["plan s", *mixed, "begin"]
            logs = [head + log[len(head):] for log in uncut[0]]
            for halves in range(len(uncut[1])):
                shelf = Shelf(uncut[2][halves])
                work = gone_on(shelf, logs[halves])
                # Its log is that log: its rows stand as they stood.
                self.assertEqual(work.log(), logs[halves])
                self.assert_goes_on(work, shelf, halves, (logs, uncut[1], uncut[2]))

    def test_it_is_the_shelf_handed_in_that_is_kept(self):
        first, second = Shelf({"a": 1}), Shelf({"a": 1})
        work = begun(first, Plan([("a", "b")]))
        ended(gone_on(second, work.log()))
        self.assertEqual(first.told(), {"a": 1})
        self.assertEqual(second.told(), {"b": 1})

    def test_words_of_a_log_as_names(self):
        pairs = [("begin", "plan"), ("plan", "begin"), ("drop", "x"), ("move", None)]
        things = named_things(["begin", "plan", "drop", "move"])
        uncut = self.uncut(pairs, things, ["spare"])
        self.assertEqual(uncut[0][0], ["plan spare", "begin plan", "drop x", "move -",
                                       "plan begin", "begin"])
        for work, shelf, halves in cuts(pairs, things, ["spare"]):
            self.assert_goes_on(gone_on(shelf, work.log()), shelf, halves, uncut)
        for spare in ("plan", "begin", "move", "drop"):
            shelf = Shelf(named_things("ab"))
            ended(gone_on(shelf, begun(shelf, Plan(RING), spare).log()))
            self.assertEqual(shelf.told(), {"a": 1, "b": 0})

    def test_works_gone_on_with_by_turns(self):
        plans = [ALL_KINDS, [("a", None), ("b", "a"), ("c", "b")]]
        things = [named_things("abcdegxyz"), named_things("abc")]
        shelves = [Shelf(each) for each in things]
        both = [begun(shelves[at], Plan(plans[at]), "s") for at in range(2)]
        for _ in range(40):
            for at in range(2):
                both[at] = gone_on(shelves[at], both[at].log())
                both[at].half()
        for at in range(2):
            self.assertEqual(both[at].half(), "end")
            self.assertEqual(shelves[at].told(), done(plans[at], things[at]))


class GoneBack(Case):

    def deeds_done(self, pairs, things, spare, halves):
        return deeds(Plan(pairs), list(things), *spare)[:halves // 2]

    def test_cut_at_every_place_all_is_as_at_the_beginning(self):
        for pairs, things, spare in all_works():
            for work, shelf, halves in cuts(pairs, things, spare):
                self.check_back(work.log(), shelf, things,
                                self.deeds_done(pairs, things, spare, halves))

    def check_back(self, log, shelf, things, told):
        before = shelf.told()
        gone = [deed[1] for deed in told if deed[0] == "drop"]
        for other in both_shelves(shelf):
            if gone:
                self.assert_refused(LetGo, gone[0], gone_back, other, log)
                self.assertEqual(other.told(), before)
                continue
            back = gone_back(other, log)
            self.assertIs(type(back), list)
            self.assertEqual(back, [("move", new, old) for _, old, new in told[::-1]])
            self.assertEqual(play(back, before), things)
            self.assertEqual(other.told(), things)

    def test_a_move_whose_row_alone_stands_there_is_not_taken_back(self):
        log = ["plan", "a b", "begin", "move a b"]
        shelf = Shelf({"a": 1})
        self.assertEqual(gone_back(shelf, log), [])
        self.assertEqual(shelf.told(), {"a": 1})
        shelf = Shelf({"b": 1})
        self.assertEqual(gone_back(shelf, log), [("move", "b", "a")])
        self.assertEqual(shelf.told(), {"a": 1})

    def test_a_drop_whose_row_alone_stands_there_is_not_refused(self):
        log = ["plan", "a -", "b a", "begin", "drop a"]
        shelf = Shelf({"a": 1, "b": 2})
        self.assertEqual(gone_back(shelf, log), [])
        self.assertEqual(shelf.told(), {"a": 1, "b": 2})
        shelf = Shelf({"b": 2})
        self.assert_refused(LetGo, "a", gone_back, shelf, log)
        self.assertEqual(shelf.told(), {"b": 2})

    def test_let_go_tells_the_first_name_by_the_log(self):
        # The drops stand in the log as the deeds do, whatever the order of names.
        for pairs in ([("a", None), ("z", None)], [("a", "b"), ("b", None), ("c", None)],
                      [("y", "z"), ("z", None), ("a", "m"), ("m", None), ("k", None)]):
            names = [old for old, new in pairs]
            shelf = Shelf(named_things(names))
            work = begun(shelf, Plan(pairs))
            ended(work)
            drops = [row.split()[1] for row in work.log() if row.startswith("drop ")]
            before = shelf.told()
            self.assert_refused(LetGo, drops[0], gone_back, shelf, work.log())
            self.assertEqual(shelf.told(), before)

    def test_taken_back_it_may_be_begun_anew(self):
        for pairs, things, spare in ordinary_works():
            if None in [new for old, new in pairs]:
                continue
            shelf = Shelf(things)
            for halves in range(2 * len(deeds(Plan(pairs), list(things), *spare)) + 1):
                work = begun(shelf, Plan(pairs), *spare)
                for _ in range(halves):
                    work.half()
                gone_back(shelf, work.log())
                self.assertEqual(shelf.told(), things)

    def test_gone_on_with_and_taken_back_then(self):
        for pairs, things, spare in ordinary_works():
            for work, shelf, halves in cuts(pairs, things, spare):
                again = gone_on(shelf, work.log())
                again.half()
                told = self.deeds_done(pairs, things, spare, halves + 1)
                self.check_back(again.log(), shelf, things, told)

    def test_pairs_rows_in_any_order(self):
        for mixed in itertools.permutations(["a b", "b a", "c d"]):
            shelf = Shelf(named_things("abc"))
            work = begun(shelf, Plan([*RING, ("c", "d")]), "s")
            ended(work)
            log = ["plan s", *mixed, "begin", *work.log()[5:]]
            self.assertEqual(len(gone_back(shelf, log)), 4)
            self.assertEqual(shelf.told(), named_things("abc"))


class Kept(Case):
    """Point 3 of these: what is handed in, and what is told."""

    def cut_off(self):
        shelf = Shelf(named_things("abc"))
        work = begun(shelf, Plan([*RING, ("c", "d")]), "s")
        for _ in range(3):
            work.half()
        return shelf, work.log()

    def test_a_log_that_is_handed_in_stays_as_it_is(self):
        shelf, log = self.cut_off()
        before = list(log)
        ended(gone_on(shelf, log))
        self.assertEqual(log, before)
        shelf, log = self.cut_off()
        gone_back(shelf, log)
        self.assertEqual(log, before)

    def test_a_log_changed_behind_changes_no_work(self):
        shelf, log = self.cut_off()
        work = gone_on(shelf, log)
        before = work.log()
        log[0] = "plan t"
        log.append("drop c")
        self.assertEqual(work.log(), before)
        log.clear()
        self.assertEqual(work.log(), before)
        ended(work)
        self.assertEqual(shelf.told(), {"a": 1, "b": 0, "d": 2})
        self.assertEqual(log, [])

    def test_logs_that_are_told_are_the_askers_own(self):
        shelf, log = self.cut_off()
        work = gone_on(shelf, log)
        told = work.log()
        told.clear()
        work.log().append("x")
        self.assertEqual(work.log(), log)
        ended(work)
        self.assertEqual(told, [])
        self.assertEqual(shelf.told(), {"a": 1, "b": 0, "d": 2})

    def test_deeds_that_are_told_are_the_askers_own(self):
        shelf, log = self.cut_off()
        gone_back(shelf, log).clear()
        self.assertEqual(shelf.told(), named_things("abc"))
        shelf, log = self.cut_off()
        told = gone_back(shelf, log)
        before = list(told)
        ended(begun(shelf, Plan(RING), "s"))
        log.clear()
        self.assertEqual(told, before)

    def test_two_works_gone_on_with_of_one_log_are_apart(self):
        shelf, log = self.cut_off()
        one, other = gone_on(Shelf(shelf.told()), log), gone_on(shelf, log)
        ended(one)
        self.assertEqual(other.log(), log)
        ended(other)
        self.assertEqual(other.log(), one.log())
