"""What several tests use: refusals, and shelves played by plain dicts."""

import itertools
import unittest

from newnames.errors import NewError


class Case(unittest.TestCase):
    """A test that can ask for a refusal by its very class and its name."""

    def assert_refused(self, kind, name, call, *handed):
        with self.assertRaises(NewError) as caught:
            call(*handed)
        self.assertIs(type(caught.exception), kind)
        if name is not None:
            self.assertEqual(caught.exception.name, name)


def raw_plans(olds, news):
    """The lists of pairs of every plan over these names, None among the new ones."""
    for many in range(len(olds) + 1):
        for chosen in itertools.combinations(olds, many):
            for led in itertools.product([*news, None], repeat=many):
                named = [new for new in led if new is not None]
                if len(named) == len(set(named)):
                    yield list(zip(chosen, led))


def all_held(names):
    """Every set of names that may be held, as a sorted list."""
    for many in range(len(names) + 1):
        for chosen in itertools.combinations(names, many):
            yield list(chosen)


def done(pairs, things):
    """What a shelf of these things holds behind the pairs; None where they don't fit."""
    left = dict(things)
    moved = {}
    for old, new in pairs:
        if old not in things:
            return None
        del left[old]
        if new is not None:
            moved[new] = things[old]
    if any(new in left for new in moved):
        return None
    return {**left, **moved}
