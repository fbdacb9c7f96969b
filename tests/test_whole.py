"""What the document promises over the whole program: [1], [2], and the interface's names and arguments."""

import inspect
import os
import subprocess
import sys
import tempfile
import unittest
from pathlib import Path

from ladderlots import errors, ladders, meetings, outcomes, papers, standing, thinning
from ladderlots.ladders import Ladder
from tests.helper import crossing_pairs, drawn_ladders, feet, mixed, spoil

ROOT = Path(__file__).resolve().parent.parent

ANSWERS = """
from tests.helper import drawn_ladders
from tests.test_whole import answers
print([answers(ladder) for ladder in drawn_ladders(20)])
"""

ARGUMENTS = {
    ladders.Ladder: ["posts", "rungs"],
    ladders.Ladder.way: ["self", "walker"],
    ladders.Ladder.ends: ["self"],
    ladders.Ladder.carried: ["self", "things"],
    ladders.Ladder.turned: ["self"],
    ladders.Ladder.above: ["self", "other"],
    outcomes.is_outcome: ["some"],
    outcomes.places: ["things"],
    meetings.met: ["ladder"],
    meetings.must: ["outcome"],
    standing.stands: ["ladder"],
    standing.standing: ["outcome"],
    thinning.kept: ["ladder"],
    thinning.thinned: ["ladder"],
    papers.done: ["ladder", "step"],
    papers.paper: ["ladder"],
}


def seen(ladder):
    return (ladder.posts, ladder.rungs)


def told_lists(ladder):
    """Every list that can be told of a ladder, each one told anew."""
    ends = ladder.ends()
    return [
        ends, ladder.way(0), ladder.carried(list(ends)), outcomes.places(ends), meetings.met(ladder),
        meetings.must(ends), thinning.kept(ladder), papers.paper(ladder),
    ]


def answers(ladder):
    """All that can be told of a ladder, as plain values."""
    ends = ladder.ends()
    now = ladder
    for step in papers.paper(ladder):
        now = papers.done(now, step)
    told = [seen(ladder.turned()), seen(ladder.above(ladder)), seen(standing.standing(ends)), seen(now)]
    told += [seen(thinning.thinned(ladder)), standing.stands(ladder), outcomes.is_outcome(ends)]
    return told + told_lists(ladder)


class Interface(unittest.TestCase):
    def test_arguments(self):
        for asked, names in ARGUMENTS.items():
            parameters = inspect.signature(asked).parameters
            with self.subTest(asked=asked):
                self.assertEqual(names, list(parameters))
                for name, parameter in parameters.items():
                    if name == "rungs":
                        self.assertIsNone(parameter.default)
                    else:
                        self.assertIs(inspect.Parameter.empty, parameter.default)

    def test_each_refusal_is_a_class_of_errors(self):
        for name in ("LotError", "NoPost", "NoRung", "Unlike", "NoOutcome", "NoStep"):
            self.assertTrue(issubclass(getattr(errors, name), ValueError))


class OverTheWholeProgram(unittest.TestCase):
    """[2]: nothing handed in is changed, and what is told is the asker's own"""

    def test_spoilt_answers_change_no_later_ones(self):
        every = drawn_ladders(20)
        first = [answers(ladder) for ladder in every]
        before = [seen(ladder) for ladder in every]
        for ladder in every:
            for told in told_lists(ladder):
                spoil(told)
        self.assertEqual(before, [seen(ladder) for ladder in every])
        again = [answers(ladder) for ladder in reversed(every)]
        self.assertEqual(first, again[::-1])

    def test_what_was_told_stays_when_others_are_asked(self):
        one, two = Ladder(6, [4, 2, 2, 0, 1, 0, 3, 4]), Ladder(6, [0, 1, 2, 3, 4, 4])
        told = answers(one)
        kept = repr(told)
        answers(two), answers(one), answers(Ladder(1)), answers(two)
        self.assertEqual(kept, repr(told))
        self.assertEqual(kept, repr(answers(one)))

    def test_lists_handed_in_stay_and_may_change_afterwards(self):
        for seed in range(20):
            outcome = mixed(12, seed)
            before = list(outcome)
            ladder = standing.standing(outcome)
            told = [meetings.must(outcome), outcomes.places(outcome), outcomes.is_outcome(outcome), seen(ladder)]
            self.assertEqual(before, outcome)
            kept = repr(told)
            spoil(outcome)
            self.assertEqual(kept, repr(told[:3] + [seen(ladder)]))
            self.assertEqual(before, ladder.ends())
            self.assertEqual(kept, repr([meetings.must(before), outcomes.places(before), outcomes.is_outcome(before),
                                         seen(standing.standing(before))]))

    def test_nothing_hangs_on_the_run(self):
        here = repr([answers(ladder) for ladder in drawn_ladders(20)])
        for seed in ("0", "1", "77"):
            around = dict(os.environ, PYTHONPATH=str(ROOT), PYTHONHASHSEED=seed, PYTHONDONTWRITEBYTECODE="1")
            with tempfile.TemporaryDirectory() as elsewhere:
                run = subprocess.run([sys.executable, "-c", ANSWERS], cwd=elsewhere, env=around, check=True,
                                     capture_output=True, text=True)
                self.assertEqual([], os.listdir(elsewhere))
            self.assertEqual(here, run.stdout.strip())


class OneLadderManyAnswers(unittest.TestCase):
    """[1]: what is told of one ladder by several of the program's parts fits together"""

    def test_the_parts_agree(self):
        for ladder in drawn_ladders(60):
            ends = feet(ladder.posts, ladder.rungs)
            self.assertEqual(ends, ladder.ends())
            crossing = crossing_pairs(ends)
            self.assertEqual(crossing, meetings.must(ladder.ends()))
            stand, thin = standing.standing(ladder.ends()), thinning.thinned(ladder)
            for other in (stand, thin):
                self.assertEqual(ends, feet(other.posts, other.rungs))
                self.assertEqual(crossing, sorted(meetings.met(other)))
                self.assertLessEqual(len(other.rungs), len(ladder.rungs))
            self.assertIs(True, standing.stands(stand))
            self.assertIs(stand.rungs == ladder.rungs, standing.stands(ladder))
            self.assertLessEqual(stand.rungs, thin.rungs)
            self.assertEqual(list(range(ladder.posts)), ladder.above(stand.turned()).ends())


if __name__ == "__main__":
    unittest.main()
