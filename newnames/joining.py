"""Plans put behind one another, and turned back."""

from newnames.errors import Held, LetGo, Missing
from newnames.plans import Plan


def joined(one, other):
    """The plan that does at once what one does, and behind it other."""
    _check_follows(one, other)
    pairs = [(old, _led_on(new, other)) for old, new in one.pairs()]
    reached = set(one.news())
    for old, new in other.pairs():
        if old not in reached:
            pairs.append((old, new))
    return Plan(pairs)


def _check_follows(one, other):
    left = set(one.olds())
    reached = set(one.news())
    for old in other.olds():
        if old in left and old not in reached:
            raise Missing(old)
    freed = set(other.olds())
    for new in other.news():
        if new in reached and new not in freed:
            raise Held(new)


def _led_on(name, other):
    # What one lets go isn't there any more for other to lead.
    if name is None:
        return None
    return other.to(name)


def turned(plan):
    """The plan from the new names back to the old ones."""
    for old, new in plan.pairs():
        if new is None:
            raise LetGo(old)
    return Plan([(new, old) for old, new in plan.pairs()])
