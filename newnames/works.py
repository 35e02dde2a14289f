"""Works, which do a plan deed by deed, and go on or back by their logs."""

from newnames.deeds import DROP, MOVE, deeds
from newnames.errors import LetGo
from newnames.logs import deed_row, head_rows, read_log


class Work:
    """Does deeds on a shelf by halves: first a deed's row is put into the log, then it is done."""

    def __init__(self, shelf, todo, log, logged, done):
        self._shelf = shelf
        self._todo = todo
        self._log = list(log)
        # How many of the deeds have their rows in the log, and how many are done.
        self._logged = logged
        self._done = done

    def log(self):
        """The rows of the log."""
        return list(self._log)

    def half(self):
        """Which half was done: "row" or "deed"; "end" where nothing is left."""
        if self._done == len(self._todo):
            return "end"
        deed = self._todo[self._done]
        if self._logged == self._done:
            self._log.append(deed_row(deed))
            self._logged += 1
            return "row"
        _do(self._shelf, deed)
        self._done += 1
        return "deed"


def _do(shelf, deed):
    if deed[0] == DROP:
        shelf.drop(deed[1])
    else:
        shelf.move(deed[1], deed[2])


def begun(shelf, plan, spare=None):
    """A work that does the plan on the shelf, none of its deeds done; refused as deeds."""
    todo = deeds(plan, shelf.names(), spare)
    return Work(shelf, todo, head_rows(plan, spare), 0, 0)


def gone_on(shelf, log):
    """The work that goes on where its log and its shelf stand; refused with NoRow."""
    todo, logged = read_log(log)
    return Work(shelf, todo, log, logged, _many_done(shelf, todo, logged))


def gone_back(shelf, log):
    """The moves that take the work back, done on the shelf; refused with NoRow, then LetGo."""
    todo, logged = read_log(log)
    done = todo[:_many_done(shelf, todo, logged)]
    for deed in done:
        if deed[0] == DROP:
            raise LetGo(deed[1])
    back = [(MOVE, new, old) for _, old, new in reversed(done)]
    for deed in back:
        _do(shelf, deed)
    return back


def _many_done(shelf, todo, logged):
    # A row is put into the log ahead of its deed, so that only the last row's deed may not
    # be done; then its thing still stands under the old name.
    if logged > 0 and todo[logged - 1][1] in shelf.names():
        return logged - 1
    return logged
