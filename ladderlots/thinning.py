"""Thinning: as few of the rungs of a ladder as bring about its ends."""

from ladderlots.ladders import Ladder, cross


def kept(ladder):
    feet = ladder.ends()
    numbers = []
    # Two who must still cross do so on the first rung that lets them: it never leaves more for the rungs below
    # to bring about than waiting would.
    for number, rung in enumerate(ladder.rungs):
        if feet[rung] > feet[rung + 1]:
            cross(feet, rung)
            numbers.append(number)
    return numbers


def thinned(ladder):
    return Ladder(ladder.posts, [ladder.rungs[number] for number in kept(ladder)])
