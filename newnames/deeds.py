"""The single deeds that do a plan, none of them onto a name that is held."""

from newnames.errors import Held, NoSpare
from newnames.plans import check_name, fits

MOVE = "move"
DROP = "drop"


def deeds(plan, names, spare=None):
    """The deeds that do the plan where just these names are held; a ring needs a spare name."""
    fits(plan, names)
    if spare is None:
        _check_no_rings(plan)
    else:
        _check_spare(spare, plan, names)
    return deeds_over(plan, spare)


def _check_no_rings(plan):
    rings = plan.rings()
    if rings:
        raise NoSpare(rings[0])


def _check_spare(spare, plan, names):
    check_name(spare)
    if spare in names or spare in plan.news():
        raise Held(spare)


def deeds_over(plan, spare):
    """The deeds of a plan, asking for no names held, so that a log alone tells them again."""
    told = _chain_deeds(plan)
    for ring in plan.rings():
        told.extend(_ring_deeds(ring, spare))
    return told


def _chain_deeds(plan):
    olds = set(plan.olds())
    comers = {new: old for old, new in plan.pairs() if new is not None}
    told = []
    for old, new in plan.pairs():
        # Only the end of a chain is free, or can be made so: it is done from there on.
        if new is None:
            told.append((DROP, old))
            told.extend(_moves_up(old, comers))
        elif new not in olds:
            told.extend(_moves_up(new, comers))
    return told


def _moves_up(free, comers):
    moves = []
    while free in comers:
        comer = comers[free]
        moves.append((MOVE, comer, free))
        # What has moved up leaves its own name free for the next one.
        free = comer
    return moves


def _ring_deeds(ring, spare):
    # The last thing makes way for all others, and goes last to where it leads.
    told = [(MOVE, ring[-1], spare)]
    for at in range(len(ring) - 1, 0, -1):
        told.append((MOVE, ring[at - 1], ring[at]))
    told.append((MOVE, spare, ring[0]))
    return told
