"""Papers: the steps that lead from a ladder to the standing one with its ends."""

from ladderlots.errors import NoStep
from ladderlots.ladders import Ladder


def changed(word, rungs):
    if word == "apart" and abs(rungs[0] - rungs[1]) >= 2:
        return (rungs[1], rungs[0])
    if word == "turn" and rungs[0] == rungs[2] and abs(rungs[0] - rungs[1]) == 1:
        return (rungs[1], rungs[0], rungs[1])
    if word == "out" and rungs[0] == rungs[1]:
        return ()
    raise NoStep(f"{word!r} does not fit the rungs {rungs}")


def done(ladder, step):
    word = step[0]
    at = step[1]
    behind = at + (3 if word == "turn" else 2)
    # A place below 0 must not count from the last rung on.
    if at < 0 or behind > len(ladder.rungs):
        raise NoStep(f"too few rungs from {at} on for {word!r}")
    rungs = ladder.rungs
    return Ladder(ladder.posts, rungs[:at] + changed(word, rungs[at:behind]) + rungs[behind:])


def size(drop):
    return drop[0] - drop[1] + 1


def up_apart(at, count):
    return [("apart", at - past) for past in range(1, count + 1)]


def up_turning(at, rung, drop):
    below = rung - 1 - drop[1]
    turn = at - below - 2
    return up_apart(at, below) + [("turn", turn)] + up_apart(turn, drop[0] - rung)


def shorten(drops, number):
    drop = drops[number]
    if size(drop) == 1:
        drops.pop(number)
    else:
        drops[number] = (drop[0], drop[1] + 1)


# A drop is kept as a tuple of its first and its last rung, since those between follow from them.
def take(drops, rung):
    at = sum([size(drop) for drop in drops])
    steps = []
    above = len(drops)
    while above > 0 and rung <= drops[above - 1][0]:
        drop = drops[above - 1]
        if rung == drop[1]:
            shorten(drops, above - 1)
            return steps + [("out", at - 1)]
        if rung == drop[1] - 1:
            drops[above - 1] = (drop[0], rung)
            return steps
        if rung < drop[1]:
            steps.extend(up_apart(at, size(drop)))
        else:
            steps.extend(up_turning(at, rung, drop))
            rung -= 1
        at -= size(drop)
        above -= 1
    drops.insert(above, (rung, rung))
    return steps


def paper(ladder):
    drops = []
    steps = []
    for rung in ladder.rungs:
        steps.extend(take(drops, rung))
    return steps
