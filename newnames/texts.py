"""Plans written as texts, a row for each pair, and read again."""

from newnames.errors import NoRow
from newnames.plans import Plan, is_name

LET_GO = "-"


def written(plan):
    """The rows of the plan's pairs, each ended by a line end."""
    return "".join([f"{row}\n" for row in pair_rows(plan)])


def pair_rows(plan):
    """The rows of the plan's pairs, rising by the old names."""
    return [f"{old} {LET_GO if new is None else new}" for old, new in plan.pairs()]


def read(text):
    """The plan of a text of pairs' rows, in any order; refused with NoRow."""
    rows = text.split("\n")
    # What stands behind the last line end is a row that isn't ended, or nothing at all.
    rest = rows.pop()
    plan = plan_of(rows, 0, None)
    if rest:
        raise NoRow(len(rows))
    return plan


def plan_of(rows, first, spare):
    """The plan of pairs' rows, the first of this number; none may tell of the spare name."""
    pairs = []
    olds = {spare}
    news = {spare}
    for number, row in enumerate(rows, start=first):
        pair = _pair(row)
        if pair is None:
            raise NoRow(number)
        old, new = pair
        # Many things may be let go, and there may be no spare name: None is never taken.
        if old in olds or (new is not None and new in news):
            raise NoRow(number)
        olds.add(old)
        news.add(new)
        pairs.append(pair)
    return Plan(pairs)


def _pair(row):
    # A second blank would stand in the last word, which is no name then.
    old, _, new = row.partition(" ")
    if not is_name(old):
        return None
    if new == LET_GO:
        return (old, None)
    if is_name(new):
        return (old, new)
    return None
