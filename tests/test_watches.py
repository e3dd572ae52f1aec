import itertools
import random
import unittest
from fractions import Fraction

from nearposts.errors import NoMany
from nearposts.squares import square_least
from nearposts.watches import Watch
from reckoning import BIG, ReckoningTest

MANYS = (1, 2, 3, 4, BIG)


def way(one, other):
    return max(abs(one[0] - other[0]), abs(one[1] - other[1]))


class Reckoned:
    """The words of point 20, one after the other."""

    def __init__(self, many):
        self.many = many
        self.folk = []
        self.posts = []
        self.mark = 0
        self.bar = None

    def between(self, one, other):
        return way(self.folk[one], self.folk[other])

    def come(self, place):
        self.folk.append(place)
        new = len(self.folk) - 1
        if not any(self.between(new, post) <= 2 * self.mark for post in self.posts):
            self.posts = self.posts + [new]
        while len(self.posts) > self.many:
            self.bar = self.posts
            self.mark = min(itertools.starmap(self.between, itertools.combinations(self.posts, 2)))
            self.posts = []
            for post in self.bar:
                if not any(self.between(post, kept) <= 2 * self.mark for kept in self.posts):
                    self.posts = self.posts + [post]

    def reach(self):
        ways = [min(self.between(one, post) for post in self.posts) for one in range(len(self.folk))]
        return max(ways, default=0)


def some_walk(chance, count, places):
    return [(chance.randint(-places, places), chance.randint(-places, places)) for at in range(count)]


def walks():
    chance = random.Random(51)
    told = [[(0, 0)], [(4, -2)] * 5, [(1, 1), (5, 5)] * 4, [(BIG, -BIG), (-BIG, BIG), (0, 0), (BIG, BIG)]]
    told.append([(3 ** at, 0) for at in range(60)])
    told.append([(-(2 ** at), 2 ** at) for at in range(60)])
    told.append([(0, -(at * at)) for at in range(40)])
    told.append([(at, 0) for at in range(40)])
    for places in (1, 3, 30, 10 ** 6, BIG):
        told.append(some_walk(chance, 40, places))
    told.append([(chance.randint(-1, 1) * 9 ** at, chance.randint(0, 9) * 4 ** at) for at in range(40)])
    return told


class WatchTest(ReckoningTest):
    def seen(self, watch):
        return (watch.many, watch.folk(), watch.posts(), watch.mark(), watch.bar(), watch.reach())

    def assert_as_reckoned(self, watch, reckoned):
        self.assertEqual(watch.many, reckoned.many)
        self.assertEqual(watch.folk(), reckoned.folk)
        self.assertEqual(watch.posts(), reckoned.posts)
        self.assertEqual(watch.mark(), reckoned.mark)
        self.assertEqual(watch.bar(), reckoned.bar)
        self.assertEqual(watch.reach(), reckoned.reach())

    def assert_kinds(self, watch):
        self.assertEqual([type(told) for told in (watch.folk(), watch.posts())], [list, list])
        self.assertEqual([type(told) for told in (watch.mark(), watch.reach())], [int, int])
        self.assertEqual({type(one) for one in watch.folk()} - {tuple}, set())
        self.assertEqual({type(number) for number in watch.posts()} - {int}, set())

    def assert_promise(self, watch):
        folk = watch.folk()
        self.assertLessEqual(len(watch.posts()), watch.many)
        self.assertLessEqual(watch.reach(), 4 * watch.mark())
        if watch.mark() == 0:
            self.assertIsNone(watch.bar())
        else:
            self.assertIs(type(watch.bar()), list)
            self.assertEqual(len(watch.bar()), watch.many + 1)
            for one, other in itertools.combinations(watch.bar(), 2):
                self.assertGreaterEqual(way(folk[one], folk[other]), watch.mark())
        if watch.many <= 2:
            least = Fraction(*square_least(folk, watch.many))
            self.assertGreaterEqual(2 * least, watch.mark())
            self.assertLessEqual(watch.reach(), 8 * least)

    def follow(self, many, walk):
        watch = Watch(many)
        reckoned = Reckoned(many)
        for number, place in enumerate(walk):
            told = watch.come(place[0], place[1])
            self.assertIs(type(told), int)
            self.assertEqual(told, number)
            reckoned.come(place)
            self.assert_as_reckoned(watch, reckoned)
            self.assert_kinds(watch)
            self.assert_promise(watch)
        return watch


class StepsTest(WatchTest):
    def test_no_folk(self):
        for many in MANYS:
            self.assertEqual(self.seen(Watch(many)), (many, [], [], 0, None, 0))

    def test_one(self):
        for many in MANYS:
            for place in ((0, 0), (-7, 3), (BIG, -BIG)):
                watch = Watch(many)
                self.assertEqual(watch.come(place[0], place[1]), 0)
                self.assertEqual(self.seen(watch), (many, [place], [0], 0, None, 0))

    def test_some_alike(self):
        for many in MANYS:
            watch = Watch(many)
            for number in range(6):
                self.assertEqual(watch.come(4, -2), number)
                self.assertEqual(self.seen(watch), (many, [(4, -2)] * (number + 1), [0], 0, None, 0))

    def test_one_post_step_by_step(self):
        watch = Watch(1)
        steps = (
            ((0, 0), [0], 0, None, 0),
            ((0, 0), [0], 0, None, 0),
            ((10, 0), [0], 10, [0, 2], 10),
            ((0, -20), [0], 10, [0, 2], 20),
            ((-21, 5), [0], 21, [0, 4], 21),
            ((42, 42), [0], 21, [0, 4], 42),
            ((3, 43), [0], 43, [0, 6], 43),
        )
        for place, posts, mark, bar, reach in steps:
            watch.come(place[0], place[1])
            self.assertEqual(self.seen(watch)[2:], (posts, mark, bar, reach))

    def test_those_farther_than_twice_the_new_mark_are_kept(self):
        for last, posts in ((20, [0]), (21, [0, 2]), (-20, [0]), (-21, [0, 2])):
            watch = Watch(2)
            for x in (0, 10, last):
                watch.come(x, 0)
            self.assertEqual(self.seen(watch)[2:5], (posts, 10, [0, 1, 2]))

    def test_posts_are_kept_against_those_kept_not_against_all(self):
        watch = Watch(3)
        for x in (0, 10, 25, 36):
            watch.come(x, 0)
        self.assertEqual(self.seen(watch)[2:], ([0, 2], 10, [0, 1, 2, 3], 11))

    def test_posts_are_gone_through_in_their_order(self):
        watch = Watch(2)
        for x in (10, 0, 21):
            watch.come(x, 0)
        self.assertEqual(self.seen(watch)[2:], ([0], 10, [0, 1, 2], 11))
        watch.come(100, 0)
        self.assertEqual(self.seen(watch)[2:], ([0, 3], 10, [0, 1, 2], 11))
        watch.come(-100, 7)
        self.assertEqual(self.seen(watch)[2:], ([0], 90, [0, 3, 4], 110))

    def test_the_greater_one_of_x_and_y(self):
        watch = Watch(1)
        watch.come(1, 2)
        watch.come(4, -5)
        self.assertEqual(self.seen(watch)[2:], ([0], 7, [0, 1], 7))

    def test_many_of_forty_figures(self):
        watch = self.follow(BIG, [(at // 2, 0) for at in range(20)])
        self.assertEqual(watch.posts(), list(range(0, 20, 2)))
        self.assertEqual((watch.mark(), watch.bar(), watch.reach()), (0, None, 0))

    def test_places_of_forty_figures(self):
        watch = Watch(1)
        watch.come(-BIG, BIG)
        watch.come(BIG, BIG)
        self.assertEqual(self.seen(watch)[2:], ([0], 2 * BIG, [0, 1], 2 * BIG))
        watch = Watch(1)
        for y in (BIG, BIG - 1, BIG - 3, BIG - 6):
            watch.come(BIG, y)
        self.assertEqual(self.seen(watch)[2:], ([0], 3, [0, 2], 6))

    def test_each_step_as_reckoned(self):
        for walk in walks():
            for many in MANYS:
                self.follow(many, walk)

    def test_little_walks(self):
        for walk in itertools.product((0, 1, 3, 7), repeat=5):
            for many in (1, 2, 3):
                self.follow(many, [(x, 0) for x in walk])

    def test_two_hundred_folk(self):
        chance = random.Random(52)
        great = [(chance.randint(-1, 1) * 2 ** (at // 2), chance.randint(-BIG, BIG)) for at in range(200)]
        for many in (1, 4, 30, 199):
            for walk in (some_walk(chance, 200, 50), great, [(at * at, at) for at in range(200)]):
                watch = Watch(many)
                reckoned = Reckoned(many)
                for place in walk:
                    watch.come(place[0], place[1])
                    reckoned.come(place)
                self.assert_as_reckoned(watch, reckoned)
                self.assert_promise(watch)

    def test_no_many(self):
        self.assert_no_many(Watch)
        self.assert_refused(NoMany, {}, lambda: Watch(0))


class ListsTest(WatchTest):
    def test_told_lists_are_the_askers_own(self):
        for walk in walks():
            for many in (1, 3):
                watch = Watch(many)
                reckoned = Reckoned(many)
                for place in walk:
                    watch.come(place[0], place[1])
                    reckoned.come(place)
                    for call in (watch.folk, watch.posts, watch.bar):
                        self.assert_asker_owns(call)
                    self.assert_as_reckoned(watch, reckoned)

    def test_nothing_that_comes_later_changes_what_was_told(self):
        for walk in walks():
            watch = Watch(2)
            told = []
            kept = []
            for place in walk:
                watch.come(place[0], place[1])
                told.append(self.seen(watch))
                kept.append(repr(told[-1]))
            self.assertEqual([repr(each) for each in told], kept)

    def test_bar_and_posts_are_not_one_list(self):
        watch = Watch(1)
        for x in (0, 10):
            watch.come(x, 0)
        bar, posts = watch.bar(), watch.posts()
        bar.append(9)
        posts.append(8)
        self.assertEqual(self.seen(watch)[2:], ([0], 10, [0, 1], 10))

    def test_asking_changes_nothing(self):
        watch = Watch(2)
        for place in walks()[-1]:
            watch.come(place[0], place[1])
            self.assertEqual(self.seen(watch), self.seen(watch))

    def test_two_watches_by_turns(self):
        one, other = walks()[-1], walks()[-2]
        for many in (1, 2, 3):
            alone = [self.follow(many, one), self.follow(many + 1, other)]
            turns = [Watch(many), Watch(many + 1)]
            for at in range(len(one)):
                self.assertEqual(turns[0].come(one[at][0], one[at][1]), at)
                self.assertEqual(turns[1].come(other[at][0], other[at][1]), at)
            self.assertEqual([self.seen(each) for each in turns], [self.seen(each) for each in alone])


if __name__ == "__main__":
    unittest.main()
