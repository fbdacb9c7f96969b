"""Meetings: who comes to each rung, and which walkers must cross."""

from ladderlots.ladders import cross
from ladderlots.outcomes import check_outcome


def met(ladder):
    walkers = list(range(ladder.posts))
    told = []
    for rung in ladder.rungs:
        told.append((walkers[rung], walkers[rung + 1]))
        cross(walkers, rung)
    return told


def must(outcome):
    check_outcome(outcome)
    told = []
    for lesser, foot in enumerate(outcome):
        for greater in range(lesser + 1, len(outcome)):
            if foot > outcome[greater]:
                told.append((lesser, greater))
    return told
