"""Outcomes: for each walker, in order, the post at whose foot they come out."""

from ladderlots.errors import NoOutcome
from ladderlots.ladders import MOST_POSTS


def right_length(some):
    return 1 <= len(some) <= MOST_POSTS


def is_outcome(some):
    return right_length(some) and sorted(some) == list(range(len(some)))


def check_outcome(some):
    if not is_outcome(some):
        raise NoOutcome("an outcome has each number from 0 to its length less 1 just once")


def places(things):
    if not right_length(things):
        raise NoOutcome(f"only from 1 to {MOST_POSTS} numbers have places")
    # Sorting leaves alike ones in the order in which they stood, so each gets a place of its own.
    rising = sorted(range(len(things)), key=lambda at: things[at])
    told = [0] * len(things)
    for place, at in enumerate(rising):
        told[at] = place
    return told
