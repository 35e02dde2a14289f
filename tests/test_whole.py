"""Point 2 over the whole program, and what the interface lists."""

import importlib
import inspect
import unittest

from newnames.deeds import deeds
from newnames.joining import joined, turned
from newnames.plans import Plan, behind
from newnames.shelves import Shelf
from newnames.texts import read, written
from newnames.works import begun
from tests.helpers import ORDINARY, all_held, done, ended, many_deeds, named_things, raw_plans

FUNCTIONS = {
    "plans": {"is_name": 1, "fits": 2, "behind": 2},
    "joining": {"joined": 2, "turned": 1},
    "deeds": {"deeds": 3},
    "texts": {"written": 1, "read": 1},
    "works": {"begun": 3, "gone_on": 2, "gone_back": 2},
}
METHODS = {
    ("plans", "Plan"): ("pairs", "olds", "news", "rings", "to"),
    ("shelves", "Shelf"): ("names", "told", "thing", "move", "drop"),
    ("works", "Work"): ("log", "half"),
}


class Interface(unittest.TestCase):

    def test_functions(self):
        for file, told in FUNCTIONS.items():
            for name, many in told.items():
                function = getattr(importlib.import_module(f"newnames.{file}"), name)
                self.assertTrue(inspect.isfunction(function))
                self.assertEqual(function.__module__, f"newnames.{file}")
                self.assertEqual(len(inspect.signature(function).parameters), many)

    def test_methods_stand_in_their_class_itself(self):
        for (file, name), methods in METHODS.items():
            made = getattr(importlib.import_module(f"newnames.{file}"), name)
            self.assertEqual(made.__module__, f"newnames.{file}")
            for method in methods:
                self.assertTrue(inspect.isfunction(vars(made)[method]))


def worked(pairs_or_plan, things):
    """What a shelf of these things tells behind the work that does the plan there."""
    plan = pairs_or_plan if isinstance(pairs_or_plan, Plan) else Plan(pairs_or_plan)
    shelf = Shelf(things)
    ended(begun(shelf, plan, "spare"))
    return shelf.told()


def reached(start, names):
    """The fewest deeds to each row of places, each thing by itself, over these names."""
    fewest, newest = {start: 0}, [start]
    while newest:
        following = []
        for places in newest:
            for at, old in enumerate(places):
                for new in [*(set(names) - set(places)), None] if old else ():
                    then = (*places[:at], new, *places[at + 1:])
                    if then not in fewest:
                        fewest[then] = fewest[places] + 1
                        following.append(then)
        newest = following
    return fewest


class Whole(unittest.TestCase):

    def test_all_is_done_and_all_else_is_as_it_was(self):
        for pairs in raw_plans("abc", "abcd"):
            for names in all_held("abcd"):
                things = named_things(names)
                after = done(pairs, things)
                if after is not None:
                    self.assertEqual(worked(pairs, things), after)
                    self.assertEqual(sorted(after), behind(Plan(pairs), names))

    def test_no_fewer_deeds_do_it(self):
        for names in all_held("abc"):
            fewest = reached(tuple(names), "abcds")
            for pairs in raw_plans(names, "abcd"):
                if done(pairs, named_things(names)) is None:
                    continue
                places = tuple(dict(pairs).get(name, name) for name in names)
                self.assertEqual(len(deeds(Plan(pairs), names, "s")), fewest[places], pairs)
                self.assertEqual(many_deeds(pairs), fewest[places], pairs)

    def test_two_plans_behind_one_another(self):
        for one in raw_plans("ab", "abc"):
            for other in raw_plans("abd", "acd"):
                for names in all_held("abcd"):
                    things = named_things(names)
                    middle = done(one, things)
                    if middle is None or done(other, middle) is None:
                        continue
                    after = worked(other, worked(one, things))
                    self.assertEqual(worked(joined(Plan(one), Plan(other)), things), after)

    def test_a_plan_turned_back_takes_it_back(self):
        for pairs, names in ORDINARY:
            if None not in [new for old, new in pairs]:
                things = named_things(names)
                self.assertEqual(worked(turned(Plan(pairs)), worked(pairs, things)), things)

    def test_what_is_written_is_read_as_the_same_plan(self):
        for pairs, names in ORDINARY:
            things = named_things(names)
            plan = read(written(Plan(pairs)))
            self.assertEqual(plan.pairs(), sorted(pairs))
            self.assertEqual(worked(plan, things), done(pairs, things))
            self.assertEqual(deeds(plan, list(names), "s"), deeds(Plan(pairs), list(names), "s"))
