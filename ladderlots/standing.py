"""Standing ladders: the one ladder of each outcome whose drops rise."""

from ladderlots.ladders import Ladder, cross
from ladderlots.outcomes import check_outcome


def stands(ladder):
    first = -1
    # No rung is one less than -1, so the first rung of all begins a drop.
    ahead = -1
    for rung in ladder.rungs:
        if rung != ahead - 1:
            if rung <= first:
                return False
            first = rung
        ahead = rung
    return True


def standing(outcome):
    check_outcome(outcome)
    feet = list(outcome)
    rungs = []
    # Each walker in turn goes left past those who come out farther right than they do: that is one drop, and
    # the drops rise since each next walker begins one post farther right.
    for post in range(len(feet) - 1):
        rung = post
        while rung >= 0 and feet[rung] > feet[rung + 1]:
            cross(feet, rung)
            rungs.append(rung)
            rung -= 1
    return Ladder(len(feet), rungs)
