"""Promises [1] to [6]: ladders, and the ways, ends and things on them."""

import unittest

from ladderlots.errors import NoPost, NoRung, Unlike
from ladderlots.ladders import Ladder
from ladderlots.outcomes import is_outcome
from tests.helper import HUGE, Thing, all_ladders, only_whole_numbers, refused, spread, walked


class Making(unittest.TestCase):
    """[3]"""

    def test_values(self):
        for posts, rungs, ladder in all_ladders():
            self.assertIs(int, type(ladder.posts))
            self.assertIs(tuple, type(ladder.rungs))
            self.assertEqual(posts, ladder.posts)
            self.assertEqual(rungs, ladder.rungs)
            only_whole_numbers(self, ladder.rungs)

    def test_rungs_keep_their_order_and_how_often_they_stand(self):
        self.assertEqual((2, 0, 0, 1, 2, 0), Ladder(4, [2, 0, 0, 1, 2, 0]).rungs)

    def test_a_list_and_a_tuple_are_taken_alike(self):
        for rungs in ([], [0], [1, 0, 1], spread(50, 2, 9)):
            self.assertEqual(tuple(rungs), Ladder(3, rungs).rungs)
            self.assertEqual(tuple(rungs), Ladder(3, tuple(rungs)).rungs)

    def test_no_rungs(self):
        for posts in (1, 2, 100):
            for ladder in (Ladder(posts), Ladder(posts, None), Ladder(posts, []), Ladder(posts, ())):
                self.assertEqual(posts, ladder.posts)
                self.assertIs(tuple, type(ladder.rungs))
                self.assertEqual((), ladder.rungs)

    def test_arguments_by_name(self):
        ladder = Ladder(posts=3, rungs=[1, 0])
        self.assertEqual((3, (1, 0)), (ladder.posts, ladder.rungs))

    def test_every_number_of_posts_from_1_to_100(self):
        for posts in range(1, 101):
            every = list(range(posts - 1))
            self.assertEqual(tuple(every), Ladder(posts, every).rungs)
            refused(self, NoRung, Ladder, posts, [posts - 1])
            refused(self, NoRung, Ladder, posts, [-1])

    def test_five_thousand_rungs(self):
        rungs = spread(5000, 99, 5)
        self.assertEqual(tuple(rungs), Ladder(100, rungs).rungs)

    def test_wrong_numbers_of_posts(self):
        for posts in (0, -1, -2, -100, 101, 102, 200, 1000, 10 ** 50, HUGE, -HUGE):
            with self.subTest(posts=posts):
                refused(self, NoPost, Ladder, posts)
                refused(self, NoPost, Ladder, posts, None)
                refused(self, NoPost, Ladder, posts, [])
                refused(self, NoPost, Ladder, posts, (0,))

    def test_wrong_posts_go_ahead_of_wrong_rungs(self):
        for posts in (0, -1, 101, 500, HUGE, -HUGE):
            for rung in (-1, posts - 1, posts, posts + 5, HUGE, -HUGE):
                with self.subTest(posts=posts, rung=rung):
                    refused(self, NoPost, Ladder, posts, [rung])
                    refused(self, NoPost, Ladder, posts, (0, rung, 0))

    def test_wrong_rungs(self):
        for posts in (1, 2, 3, 7, 99, 100):
            for rung in (-1, -2, -posts, posts - 1, posts, posts + 1, 1000, HUGE, -HUGE):
                with self.subTest(posts=posts, rung=rung):
                    refused(self, NoRung, Ladder, posts, [rung])
                    refused(self, NoRung, Ladder, posts, (rung,))

    def test_one_post_has_no_rungs(self):
        for rungs in ([0], [-1], [1], [0, 0], (0,)):
            refused(self, NoRung, Ladder, 1, rungs)

    def test_a_wrong_rung_at_any_place(self):
        good = spread(12, 4, 6)
        for at in range(13):
            for rung in (-1, 4, 5, HUGE, -HUGE):
                with self.subTest(at=at, rung=rung):
                    refused(self, NoRung, Ladder, 5, good[:at] + [rung] + good[at:])

    def test_several_wrong_rungs(self):
        refused(self, NoRung, Ladder, 3, [-1, 2])
        refused(self, NoRung, Ladder, 3, [2, 2, 2])


class OneNeverChanges(unittest.TestCase):
    """[2], [3]: nothing handed in is changed, and nothing done later changes a ladder."""

    def test_the_list_handed_in_stays_as_it_was(self):
        rungs = [2, 0, 1, 1]
        ladder = Ladder(4, rungs)
        ladder.way(0), ladder.ends(), ladder.turned(), ladder.above(ladder)
        ladder.carried(["a", "b", "c", "d"])
        self.assertEqual([2, 0, 1, 1], rungs)

    def test_a_refused_list_stays_as_it_was(self):
        rungs = [1, 0, 7, 1]
        refused(self, NoRung, Ladder, 4, rungs)
        refused(self, NoPost, Ladder, 0, rungs)
        self.assertEqual([1, 0, 7, 1], rungs)

    def test_the_list_changed_afterwards_changes_nothing(self):
        rungs = [0, 1]
        ladder = Ladder(3, rungs)
        rungs.append(0)
        rungs[0] = 50
        self.assertEqual((0, 1), ladder.rungs)
        self.assertEqual([2, 0, 1], ladder.ends())
        self.assertEqual([0, 1, 2], ladder.way(0))
        rungs.clear()
        self.assertEqual((0, 1), ladder.rungs)
        self.assertEqual((1, 0), ladder.turned().rungs)

    def test_one_list_for_two_ladders(self):
        rungs = [0]
        one = Ladder(3, rungs)
        rungs[0] = 1
        two = Ladder(3, rungs)
        self.assertEqual((0,), one.rungs)
        self.assertEqual((1,), two.rungs)
        self.assertEqual([1, 0, 2], one.ends())
        self.assertEqual([0, 2, 1], two.ends())

    def test_ladders_without_rungs_share_nothing(self):
        one = Ladder(2)
        longer = one.above(Ladder(2, [0]))
        self.assertEqual((0,), longer.rungs)
        self.assertEqual((), one.rungs)
        self.assertEqual((), Ladder(2).rungs)

    def test_told_lists_are_the_askers_own(self):
        for rungs in ([], [0, 1, 0], [2, 2], [1]):
            ladder = Ladder(4, rungs)
            asks = (ladder.ends, lambda: ladder.way(1), lambda: ladder.carried([9, 8, 7, 6]))
            for ask in asks:
                first = ask()
                kept = list(first)
                second = ask()
                self.assertIsNot(first, second)
                first.reverse()
                first.append("spoilt")
                first[0] = -5
                self.assertEqual(kept, second)
                self.assertEqual(kept, ask())
            self.assertEqual((4, tuple(rungs)), (ladder.posts, ladder.rungs))

    def test_what_was_told_stays_when_more_is_asked(self):
        one, two = Ladder(3, [0, 1]), Ladder(3, [1, 0])
        ends, way, carried = one.ends(), one.way(0), one.carried(["a", "b", "c"])
        two.ends(), two.way(0), two.carried(["x", "y", "z"])
        one.way(2), one.carried(["k", "l", "m"]), one.turned().ends(), one.above(two).ends()
        self.assertEqual([2, 0, 1], ends)
        self.assertEqual([0, 1, 2], way)
        self.assertEqual(["b", "c", "a"], carried)

    def test_asked_by_turns_and_again(self):
        ladders = [(posts, rungs, ladder) for posts, rungs, ladder in all_ladders() if posts <= 17]
        first = [(ladder.ends(), ladder.way(0), ladder.turned().rungs) for posts, rungs, ladder in ladders]
        again = [(ladder.ends(), ladder.way(0), ladder.turned().rungs) for posts, rungs, ladder in reversed(ladders)]
        self.assertEqual(first, again[::-1])
        for posts, rungs, ladder in ladders:
            self.assertEqual((posts, rungs), (ladder.posts, ladder.rungs))

    def test_a_refusal_changes_nothing(self):
        ladder = Ladder(3, [0, 1])
        refused(self, NoPost, ladder.way, 3)
        refused(self, Unlike, ladder.carried, [1, 2])
        refused(self, Unlike, ladder.above, Ladder(4, [0]))
        self.assertEqual((3, (0, 1)), (ladder.posts, ladder.rungs))
        self.assertEqual([2, 0, 1], ladder.ends())


class Ways(unittest.TestCase):
    """[1], [4]"""

    def test_ways_told_by_hand(self):
        ladder = Ladder(4, [0, 2, 1, 0, 2, 2])
        self.assertEqual([0, 1, 2, 3, 2], ladder.way(0))
        self.assertEqual([1, 0, 1], ladder.way(1))
        self.assertEqual([2, 3, 2, 3], ladder.way(2))
        self.assertEqual([3, 2, 1, 0], ladder.way(3))

    def test_only_the_own_post_without_crossing(self):
        self.assertEqual([0], Ladder(1).way(0))
        self.assertEqual([3], Ladder(5, [0, 1, 0]).way(3))
        for walker in range(100):
            self.assertEqual([walker], Ladder(100).way(walker))

    def test_a_rung_twice_brings_back(self):
        self.assertEqual([0, 1, 0], Ladder(2, [0, 0]).way(0))
        self.assertEqual([1, 0, 1], Ladder(2, [0, 0]).way(1))

    def test_the_first_and_the_last_walker_of_100_posts(self):
        right, left = Ladder(100, list(range(99))), Ladder(100, list(range(98, -1, -1)))
        self.assertEqual(list(range(100)), right.way(0))
        self.assertEqual([99, 98], right.way(99))
        self.assertEqual([0, 1], left.way(0))
        self.assertEqual(list(range(99, -1, -1)), left.way(99))

    def test_every_way(self):
        for posts, rungs, ladder in all_ladders():
            for walker in range(posts):
                way = ladder.way(walker)
                self.assertIs(list, type(way))
                self.assertEqual(walked(rungs, walker), way)
                only_whole_numbers(self, way)

    def test_five_thousand_crossings(self):
        way = Ladder(2, [0] * 5000).way(0)
        self.assertEqual([0, 1] * 2500 + [0], way)

    def test_argument_by_name(self):
        self.assertEqual([1, 0], Ladder(2, [0]).way(walker=1))

    def test_wrong_walkers(self):
        for posts, rungs in ((1, []), (2, [0]), (5, []), (5, [3, 2, 0]), (99, [97]), (100, [98, 0])):
            ladder = Ladder(posts, rungs)
            for walker in (-1, -2, -posts, posts, posts + 1, 1000, HUGE, -HUGE):
                with self.subTest(posts=posts, walker=walker):
                    refused(self, NoPost, ladder.way, walker)
            ladder.way(0), ladder.way(posts - 1)


class Ends(unittest.TestCase):
    """[1], [5], and of [7] that ends are an outcome"""

    def test_ends_told_by_hand(self):
        self.assertEqual([0], Ladder(1).ends())
        self.assertEqual([0, 1, 2], Ladder(3).ends())
        self.assertEqual([2, 0, 1], Ladder(3, [0, 1]).ends())
        self.assertEqual([1, 2, 0], Ladder(3, [1, 0]).ends())
        self.assertEqual([2, 1, 3, 0], Ladder(4, [0, 2, 1, 0, 2, 2]).ends())

    def test_each_walker_ends_where_their_way_does(self):
        for posts, rungs, ladder in all_ladders():
            ends = ladder.ends()
            self.assertIs(list, type(ends))
            only_whole_numbers(self, ends)
            self.assertEqual([walked(rungs, walker)[-1] for walker in range(posts)], ends)

    def test_ends_are_an_outcome(self):
        for posts, rungs, ladder in all_ladders():
            ends = ladder.ends()
            self.assertEqual(list(range(posts)), sorted(ends))
            self.assertIs(True, is_outcome(ends))

    def test_100_posts(self):
        self.assertEqual(list(range(100)), Ladder(100).ends())
        self.assertEqual([99] + list(range(99)), Ladder(100, list(range(99))).ends())
        self.assertEqual(list(range(98)) + [99, 98], Ladder(100, [98]).ends())


class Carrying(unittest.TestCase):
    """[5]"""

    def test_things_told_by_hand(self):
        self.assertEqual(["b", "c", "a"], Ladder(3, [0, 1]).carried(["a", "b", "c"]))
        self.assertEqual(["c", "a", "b"], Ladder(3, [1, 0]).carried(["a", "b", "c"]))
        self.assertEqual(["x"], Ladder(1).carried(["x"]))
        self.assertEqual(["d", "b", "a", "c"], Ladder(4, [0, 2, 1, 0, 2, 2]).carried(["a", "b", "c", "d"]))

    def test_each_walker_takes_their_thing_along(self):
        for posts, rungs, ladder in all_ladders():
            things = [Thing() for post in range(posts)]
            given = list(things)
            feet = ladder.carried(things)
            self.assertIs(list, type(feet))
            self.assertIsNot(things, feet)
            self.assertEqual(posts, len(feet))
            for walker, foot in enumerate(ladder.ends()):
                self.assertIs(given[walker], feet[foot])
            for before, behind in zip(given, things, strict=True):
                self.assertIs(before, behind)

    def test_things_of_any_kind(self):
        things = [None, "", [1], {"a": 2}, (3,), True, HUGE, -1.5, Ladder(2)]
        feet = Ladder(9, list(range(8))).carried(things)
        for thing, told in zip(things[1:] + things[:1], feet, strict=True):
            self.assertIs(thing, told)
        self.assertEqual([[1], {"a": 2}], things[2:4])

    def test_alike_things(self):
        self.assertEqual(["a", "b", "a"], Ladder(3, [0, 0, 1, 1]).carried(["a", "b", "a"]))
        self.assertEqual(["b", "a", "a"], Ladder(3, [0]).carried(["a", "b", "a"]))
        self.assertEqual([0, 0, 0], Ladder(3, [0, 1]).carried([0, 0, 0]))

    def test_things_of_equal_number_but_other_order_than_posts(self):
        self.assertEqual([1, 0, 2], Ladder(3, [0, 1]).carried([2, 1, 0]))

    def test_without_rungs_a_list_of_its_own_is_told(self):
        things = [3, 1, 2]
        told = Ladder(3).carried(things)
        self.assertEqual([3, 1, 2], told)
        self.assertIsNot(things, told)
        told[0] = 0
        things[1] = 0
        self.assertEqual([3, 0, 2], things)
        self.assertEqual([0, 1, 2], told)

    def test_the_things_handed_in_stay_and_may_change_afterwards(self):
        things = ["a", "b", "c"]
        ladder = Ladder(3, [0, 1])
        told = ladder.carried(things)
        self.assertEqual(["a", "b", "c"], things)
        things[0] = "z"
        things.append("y")
        self.assertEqual(["b", "c", "a"], told)
        self.assertEqual(["b", "c", "a"], ladder.carried(["a", "b", "c"]))
        self.assertEqual(["b", "c", "z"], ladder.carried(things[:3]))

    def test_argument_by_name(self):
        self.assertEqual(["b", "a"], Ladder(2, [0]).carried(things=["a", "b"]))

    def test_too_few_and_too_many_things(self):
        for posts, rungs in ((1, []), (2, []), (2, [0]), (3, [0, 1]), (6, [0]), (99, []), (100, [98])):
            ladder = Ladder(posts, rungs)
            for count in (0, posts - 1, posts + 1, posts + 2, 2 * posts, 1000):
                things = list(range(count))
                with self.subTest(posts=posts, count=count):
                    refused(self, Unlike, ladder.carried, things)
                    self.assertEqual(list(range(count)), things)
            self.assertEqual(posts, len(ladder.carried([0] * posts)))


class Turning(unittest.TestCase):
    """[6]"""

    def test_the_last_rung_comes_first(self):
        for posts, rungs, ladder in all_ladders():
            over = ladder.turned()
            self.assertIsInstance(over, Ladder)
            self.assertEqual(posts, over.posts)
            self.assertIs(tuple, type(over.rungs))
            self.assertEqual(tuple(reversed(rungs)), over.rungs)
            self.assertEqual(rungs, ladder.rungs)

    def test_its_left_stays_its_left(self):
        self.assertEqual((2, 0, 0), Ladder(4, [0, 0, 2]).turned().rungs)

    def test_up_and_down_again(self):
        for posts, rungs, ladder in all_ladders():
            over = ladder.turned()
            self.assertEqual(rungs, over.turned().rungs)
            ends = ladder.ends()
            for foot, top in enumerate(over.ends()):
                self.assertEqual(foot, ends[top])

    def test_one_post_and_no_rungs(self):
        self.assertEqual((1, ()), (Ladder(1).turned().posts, Ladder(1).turned().rungs))
        self.assertEqual((100, ()), (Ladder(100).turned().posts, Ladder(100).turned().rungs))


class PuttingAbove(unittest.TestCase):
    """[6]"""

    def test_the_ones_rungs_and_then_the_others(self):
        one, other = Ladder(4, [0, 1]), Ladder(4, [2, 1, 1])
        self.assertEqual((0, 1, 2, 1, 1), one.above(other).rungs)
        self.assertEqual((2, 1, 1, 0, 1), other.above(one).rungs)
        self.assertEqual(4, one.above(other).posts)
        self.assertEqual((0, 1), one.rungs)
        self.assertEqual((2, 1, 1), other.rungs)

    def test_pairs_of_ladders(self):
        ladders = [(posts, rungs, ladder) for posts, rungs, ladder in all_ladders() if len(rungs) < 3 or posts > 4]
        for posts, rungs, one in ladders:
            for others, lower, other in ladders:
                if posts != others:
                    refused(self, Unlike, one.above(one).above, other)
                    refused(self, Unlike, one.above, other)
                    continue
                both = one.above(other)
                self.assertIsInstance(both, Ladder)
                self.assertEqual(posts, both.posts)
                self.assertIs(tuple, type(both.rungs))
                self.assertEqual(rungs + lower, both.rungs)
                self.assertEqual((rungs, lower), (one.rungs, other.rungs))
                if len(rungs + lower) < 2000:
                    middle, foot = one.ends(), other.ends()
                    self.assertEqual([foot[post] for post in middle], both.ends())

    def test_above_itself(self):
        ladder = Ladder(3, [0, 1])
        self.assertEqual((0, 1, 0, 1), ladder.above(ladder).rungs)
        self.assertEqual((0, 1), ladder.rungs)

    def test_no_rungs(self):
        self.assertEqual((), Ladder(1).above(Ladder(1)).rungs)
        self.assertEqual((98,), Ladder(100).above(Ladder(100, [98])).rungs)
        self.assertEqual((98,), Ladder(100, [98]).above(Ladder(100)).rungs)

    def test_argument_by_name(self):
        self.assertEqual((0, 1), Ladder(3, [0]).above(other=Ladder(3, [1])).rungs)

    def test_other_posts_above_and_below(self):
        for one, other in ((1, 2), (2, 3), (3, 5), (1, 100), (99, 100)):
            for lower in ([], None, [0] if one > 1 else []):
                less, more = Ladder(one, lower), Ladder(other, [0])
                with self.subTest(one=one, other=other, lower=lower):
                    refused(self, Unlike, less.above, more)
                    refused(self, Unlike, more.above, less)
                    refused(self, Unlike, Ladder(other).above, less)
                    refused(self, Unlike, less.above, Ladder(other))
                    self.assertEqual((one, other), (less.posts, more.posts))
                    self.assertEqual((0,), more.rungs)


if __name__ == "__main__":
    unittest.main()
