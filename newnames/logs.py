"""The rows of a work's log, and what they tell of the work."""

from newnames.deeds import deeds_over
from newnames.errors import NoRow
from newnames.plans import is_name
from newnames.texts import pair_rows, plan_of

PLAN = "plan"
BEGIN = "begin"


def head_rows(plan, spare):
    """The rows ahead of those of the deeds."""
    first = PLAN if spare is None else f"{PLAN} {spare}"
    return [first] + pair_rows(plan) + [BEGIN]


def deed_row(deed):
    """The row of a deed."""
    return " ".join(deed)


def read_log(log):
    """All deeds of the work, and how many of them have rows in the log; refused with NoRow."""
    spare = _spare(log)
    begin = _begin_at(log)
    plan = plan_of(log[1:begin], 1, spare)
    if begin == len(log) or (spare is None and plan.rings()):
        raise NoRow(begin)
    todo = deeds_over(plan, spare)
    _check_deed_rows(log, begin + 1, todo)
    return todo, len(log) - begin - 1


def _spare(log):
    if not log:
        raise NoRow(0)
    if log[0] == PLAN:
        return None
    word, _, name = log[0].partition(" ")
    if word != PLAN or not is_name(name):
        raise NoRow(0)
    return name


def _begin_at(log):
    for at in range(1, len(log)):
        if log[at] == BEGIN:
            return at
    # Where it lacks, it is the row behind the last one that can't stand.
    return len(log)


def _check_deed_rows(log, first, todo):
    for at in range(first, len(log)):
        number = at - first
        if number >= len(todo) or log[at] != deed_row(todo[number]):
            raise NoRow(at)
