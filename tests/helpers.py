"""What several tests use: refusals, and shelves played by plain dicts."""

import itertools
import unittest

from newnames.errors import NewError, NoRow, NoSpare

# Texts that are no names, for each way in which a text may be none.
BAD_TEXTS = ("", "A", "aB", "a1", "a b", " a", "a ", "a\n", "\ta", "-", "abcdefghi", "None", "~")


class Case(unittest.TestCase):
    """A test that can ask for a refusal by its very class and its field."""

    def assert_refused(self, kind, name, call, *handed):
        with self.assertRaises(NewError) as caught:
            call(*handed)
        self.assertIs(type(caught.exception), kind)
        if name is not None:
            self.assertEqual(caught.exception.name, name)

    def assert_no_row(self, row, call, *handed):
        with self.assertRaises(NewError) as caught:
            call(*handed)
        self.assertIs(type(caught.exception), NoRow)
        self.assertEqual(caught.exception.row, row)

    def assert_no_spare(self, ring, call, *handed):
        with self.assertRaises(NewError) as caught:
            call(*handed)
        self.assertIs(type(caught.exception), NoSpare)
        self.assertEqual(caught.exception.ring, ring)


def raw_plans(olds, news):
    """The lists of pairs of every plan over these names, None among the new ones."""
    for many in range(len(olds) + 1):
        for chosen in itertools.combinations(olds, many):
            for led in itertools.product([*news, None], repeat=many):
                named = [new for new in led if new is not None]
                if len(named) == len(set(named)):
                    yield list(zip(chosen, led))


def all_held(names):
    """Every set of names that may be held, as a sorted list."""
    for many in range(len(names) + 1):
        for chosen in itertools.combinations(names, many):
            yield list(chosen)


def done(pairs, things):
    """What a shelf of these things holds behind the pairs; None where they don't fit."""
    left = dict(things)
    moved = {}
    for old, new in pairs:
        if old not in things:
            return None
        del left[old]
        if new is not None:
            moved[new] = things[old]
    if any(new in left for new in moved):
        return None
    return {**left, **moved}


def play(told, things):
    """What plain things are behind the deeds; fails where a deed goes onto a held name, or from
    one that is not."""
    left = dict(things)
    for deed in told:
        play_one(deed, left)
    return left


def play_one(deed, left):
    """Does one deed on the plain dict left."""
    kind, *names = deed
    if type(deed) is not tuple or (kind, len(names)) not in (("move", 2), ("drop", 1)):
        raise AssertionError(f"{deed!r} is no deed")
    if names[0] not in left:
        raise AssertionError(f"{deed!r} goes from a name that is not held, of {left!r}")
    if kind == "move" and names[1] in left:
        raise AssertionError(f"{deed!r} goes onto a name that is held, of {left!r}")
    thing = left.pop(names[0])
    if kind == "move":
        left[names[1]] = thing


def raw_rings(pairs):
    """The rings of the pairs as sets of names, found by leading each name round."""
    leads = dict(pairs)
    found = set()
    for start in leads:
        walk, name = [start], leads[start]
        while name in leads and name not in walk:
            walk.append(name)
            name = leads[name]
        if name == start and len(walk) > 1:
            found.add(frozenset(walk))
    return found


def many_deeds(pairs):
    """As many deeds as a plan takes: one for each thing that doesn't stay, one for each ring."""
    return len([old for old, new in pairs if old != new]) + len(raw_rings(pairs))


def named_things(names):
    """A plain dict of unlike things under these names."""
    return {name: index for index, name in enumerate(names)}


# Plans of each kind, each with the names held where it is done; all leave "s" free.
RING = [("a", "b"), ("b", "a")]
ALL_KINDS = RING + [("c", "c"), ("d", "e"), ("e", "f"), ("g", "h"), ("x", "y"), ("y", "z"),
                    ("z", "x")]
ORDINARY = (
    ([], ""),
    ([], "ba"),
    ([("a", "a")], "a"),
    ([("a", "b")], "ka"),
    ([("a", "b"), ("b", "c"), ("c", "d")], "cab"),
    ([("d", "c"), ("c", "b"), ("b", "a"), ("k", "k")], "dkcb"),
    ([("a", None)], "ab"),
    ([("a", "b"), ("b", None), ("c", "a"), ("d", None)], "abcd"),
    (RING, "bka"),
    ([("a", "c"), ("c", "b"), ("b", "a")], "cab"),
    (RING + [("x", "y"), ("y", "x")], "xayb"),
    (ALL_KINDS, "kabcdegxyz"),
    (ALL_KINDS + [("i", None), ("j", "i"), ("m", None)], "kabcdegxyzijm"),
)


def has_ring(pairs):
    return bool(raw_rings(pairs))


def ordinary_works():
    """Pairs, the things where they are done, and what is handed in behind the plan."""
    for pairs, names in ORDINARY:
        # Alike things, too: each has to be led by its name alone.
        for things in (named_things(names), {name: "pear" for name in names}):
            yield pairs, things, ("s",)
            if not has_ring(pairs):
                yield pairs, things, ()
                yield pairs, things, (None,)


def head_of(pairs, spare=None):
    """The rows of a log ahead of those of the deeds."""
    rows = [f"{old} {'-' if new is None else new}" for old, new in sorted(pairs)]
    return ["plan" if spare is None else f"plan {spare}", *rows, "begin"]


def ended(work):
    """Does all halves of a work, and tells what they told."""
    told = [work.half()]
    while told[-1] != "end":
        told.append(work.half())
    return told
