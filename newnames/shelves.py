"""Shelves: things, each under a name of its own."""

from newnames.errors import Held, Missing
from newnames.plans import check_name


class Shelf:
    """Holds things under names, and has them moved and dropped one by one."""

    def __init__(self, things):
        for name in things:
            check_name(name)
        self._things = dict(things)

    def names(self):
        """The names held, rising."""
        return sorted(self._things)

    def told(self):
        """All things by their names, the names rising."""
        return {name: self._things[name] for name in sorted(self._things)}

    def thing(self, name):
        """The thing under the name; refused where there is none."""
        self._check_there(name)
        return self._things[name]

    def move(self, old, new):
        """None; the thing under the old name stands under the new one, which has to be free."""
        # What is no name comes ahead of what is missing, also where it is the new one.
        check_name(new)
        self._check_there(old)
        if new in self._things:
            raise Held(new)
        self._things[new] = self._things.pop(old)

    def drop(self, name):
        """None; what stood under the name is gone."""
        self._check_there(name)
        del self._things[name]

    def _check_there(self, name):
        check_name(name)
        if name not in self._things:
            raise Missing(name)
