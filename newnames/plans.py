"""Names, plans of new names, and whether a plan fits the names held."""

from newnames.errors import Held, Missing, NoName, Twice

LONGEST = 8


def is_name(thing):
    """Whether the thing, which may be anything, is a text of 1 to 8 letters, a to z."""
    if not isinstance(thing, str) or not 1 <= len(thing) <= LONGEST:
        return False
    # isalpha and islower would let letters beyond a to z through.
    return all(["a" <= sign <= "z" for sign in thing])


def check_name(thing):
    """None; refused with NoName, where the thing is no name."""
    if not is_name(thing):
        raise NoName(f"{thing!r} is no name")


class Plan:
    """Leads old names to new ones, or to None, which lets the thing go."""

    def __init__(self, pairs):
        leads = {}
        taken = set()
        for old, new in pairs:
            check_name(old)
            if new is not None:
                check_name(new)
            if old in leads:
                raise Twice(old)
            if new in taken:
                raise Twice(new)
            leads[old] = new
            # Many things may be let go, so None is never taken.
            if new is not None:
                taken.add(new)
        self._leads = {old: leads[old] for old in sorted(leads)}

    def pairs(self):
        """The pairs (old, new), rising by old."""
        return list(self._leads.items())

    def olds(self):
        """The old names, rising."""
        return list(self._leads)

    def news(self):
        """The new names without None, rising."""
        return sorted([new for new in self._leads.values() if new is not None])

    def to(self, name):
        """The new name of an old one, None where it is let go; any other name itself."""
        return self._leads.get(name, name)

    def rings(self):
        """The rings of two names or more, each from its least name on, rising."""
        found = []
        seen = set()
        # Rising starts meet each ring first at its least name.
        for start in self._leads:
            walk = []
            name = start
            while name in self._leads and name not in seen:
                seen.add(name)
                walk.append(name)
                name = self._leads[name]
            # A row that ends elsewhere than at its start is no ring.
            if name == start and len(walk) > 1:
                found.append(tuple(walk))
        return found


def fits(plan, names):
    """None; refused where an old name isn't held, or a new one isn't free."""
    held = set(names)
    for old in plan.olds():
        if old not in held:
            raise Missing(old)
    olds = set(plan.olds())
    for new in plan.news():
        if new in held and new not in olds:
            raise Held(new)


def behind(plan, names):
    """The names held behind the plan, rising; refused as fits."""
    fits(plan, names)
    olds = set(plan.olds())
    return sorted([name for name in names if name not in olds] + plan.news())
