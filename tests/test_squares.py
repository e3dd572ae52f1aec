import copy
import itertools
import random
import unittest
from fractions import Fraction

from nearposts.errors import NoMany, NoPosts
from nearposts.squares import square_least, square_posts, square_reach
from reckoning import BIG, ReckoningTest, lots, pair


def reckoned_way(one, post):
    return max(abs(one[0] - Fraction(*post[0])), abs(one[1] - Fraction(*post[1])))


def reckoned_reach(folk, posts):
    return max((min(reckoned_way(one, post) for post in posts) for one in folk), default=Fraction(0))


def reckoned_least(folk, many):
    def lot_reach(lot):
        return Fraction(max(max(along) - min(along) for along in zip(*lot)), 2)

    return min(max(map(lot_reach, parted), default=Fraction(0)) for parted in lots(list(folk), many))


def some_folk(chance, count, places):
    return [(chance.randint(-places, places), chance.randint(-places, places)) for at in range(count)]


def many_folk():
    chance = random.Random(31)
    told = [[], [(0, 0)], [(-3, 8)], [(4, 2), (4, 2)], [(4, 2), (4, 9), (4, 2)], [(1, 7), (5, 7), (2, 7)]]
    told.append([(BIG, -BIG), (-BIG, BIG), (0, 0)])
    for count in range(2, 10):
        told.append(some_folk(chance, count, 5))
        told.append(some_folk(chance, count, 100))
        told.append(some_folk(chance, count, BIG))
    return told


def great_folk():
    chance = random.Random(32)
    return [some_folk(chance, 40, 50), some_folk(chance, 40, BIG), [(at, -at) for at in range(40)]]


class SquareTest(ReckoningTest):
    def assert_least(self, folk, many):
        least = square_least(folk, many)
        self.assert_fraction(least)
        posts = square_posts(folk, many)
        self.assertIs(type(posts), list)
        for post in posts:
            self.assertIs(type(post), tuple)
            self.assertEqual(len(post), 2)
            self.assert_fraction(post[0])
            self.assert_fraction(post[1])
        self.assert_rising([(Fraction(*x), Fraction(*y)) for x, y in posts])
        self.assertLessEqual(len(posts), many)
        self.assertEqual(posts == [], folk == [])
        self.assertEqual(pair(reckoned_reach(folk, posts)), least)
        self.assertEqual(square_reach(folk, posts), least)
        return least


class SquareReachTest(SquareTest):
    def test_no_folk(self):
        self.assertEqual(square_reach([], []), (0, 1))
        self.assertEqual(square_reach([], [((1, 2), (7, 1))]), (0, 1))

    def test_the_greater_one_of_x_and_y(self):
        self.assertEqual(square_reach([(1, 2)], [((4, 1), (3, 1))]), (3, 1))
        self.assertEqual(square_reach([(1, 2)], [((2, 1), (-3, 1))]), (5, 1))
        self.assertEqual(square_reach([(1, 2)], [((-2, 1), (5, 1))]), (3, 1))
        self.assertEqual(square_reach([(1, 2)], [((1, 1), (2, 1))]), (0, 1))

    def test_the_nearest_post_and_the_farthest_of_the_folk(self):
        posts = [((9, 1), (9, 1)), ((0, 1), (0, 1))]
        self.assertEqual(square_reach([(1, 2), (1, 2)], posts), (2, 1))
        self.assertEqual(square_reach([(1, 2), (9, 4)], posts), (5, 1))

    def test_posts_that_are_fractions(self):
        self.assertEqual(square_reach([(1, 0)], [((1, 3), (1, 2))]), (2, 3))
        self.assertEqual(square_reach([(1, 0)], [((1, 3), (-3, 4))]), (3, 4))
        self.assertEqual(square_reach([(0, 0)], [((1, BIG), (0, 1))]), (1, BIG))

    def test_as_reckoned_otherwise(self):
        chance = random.Random(33)

        def some_number():
            return pair(Fraction(chance.randint(-60, 60), chance.randint(1, 9)))

        for folk in many_folk() + great_folk():
            for count in (1, 2, 3, 40):
                posts = [(some_number(), some_number()) for at in range(count)]
                told = square_reach(folk, posts)
                self.assert_fraction(told)
                self.assertEqual(told, pair(reckoned_reach(folk, posts)))

    def test_folk_without_posts_are_refused(self):
        for folk in ([(0, 0)], [(0, 0), (0, 0)], [(BIG, -BIG)]):
            with self.assertRaises(NoPosts):
                square_reach(folk, [])


class SquareLeastTest(SquareTest):
    def test_no_folk(self):
        for many in (1, 2):
            self.assertEqual(square_least([], many), (0, 1))
            self.assertEqual(square_posts([], many), [])

    def test_one_of_the_folk(self):
        for one in ((0, 0), (-3, 8), (BIG, -BIG)):
            for many in (1, 2):
                self.assertEqual(self.assert_least([one], many), (0, 1))
                self.assertEqual(square_posts([one], many), [((one[0], 1), (one[1], 1))])

    def test_some_alike(self):
        for many in (1, 2):
            self.assertEqual(self.assert_least([(4, 2)] * 3, many), (0, 1))
        folk = [(4, 2), (1, 9), (4, 2), (1, 9)]
        self.assertEqual(self.assert_least(folk, 1), (7, 2))
        self.assertEqual(self.assert_least(folk, 2), (0, 1))
        self.assertEqual(square_posts(folk, 2), [((1, 1), (9, 1)), ((4, 1), (2, 1))])

    def test_two_of_like_x_and_two_of_like_y(self):
        self.assertEqual(square_posts([(3, 9), (3, -4)], 2), [((3, 1), (-4, 1)), ((3, 1), (9, 1))])
        self.assertEqual(square_posts([(9, 3), (-4, 3)], 2), [((-4, 1), (3, 1)), ((9, 1), (3, 1))])
        self.assertEqual(self.assert_least([(3, 9), (3, -4)], 1), (13, 2))

    def test_two_lots_far_apart(self):
        near = [(0, 0), (2, 1), (1, 2)]
        for move in ((100, 100), (-100, 100), (100, -100), (-100, -100), (100, 0), (0, -100)):
            far = [(x + move[0], y + move[1]) for x, y in near]
            self.assertEqual(self.assert_least(near + far, 2), (1, 1))
            self.assertEqual(self.assert_least(near + far, 1), (51, 1))

    def test_sides_that_are_odd(self):
        self.assertEqual(self.assert_least([(0, 0), (3, 0)], 1), (3, 2))
        self.assertEqual(self.assert_least([(0, 0), (0, 1)], 1), (1, 2))
        self.assertEqual(self.assert_least([(0, 0), (1, 3), (20, 0), (21, 3)], 2), (3, 2))

    def test_only_a_parting_by_both_x_and_y_is_the_best(self):
        folk = [(0, 0), (4, 0), (0, 4), (3, 9), (9, 3), (9, 9), (5, 5)]
        best = self.assert_least(folk, 2)
        self.assertEqual(best, (3, 1))
        for along in (0, 1):
            for border in range(10):
                below = [one for one in folk if one[along] < border]
                above = [one for one in folk if one[along] >= border]
                told = max(square_least(below, 1), square_least(above, 1), key=lambda each: Fraction(*each))
                self.assertGreater(Fraction(*told), Fraction(*best))

    def test_each_two_opposite_corners(self):
        folk = [(0, 0), (1, 1), (9, 9), (8, 8)]
        self.assertEqual(self.assert_least(folk, 2), (1, 2))
        self.assertEqual(square_posts(folk, 2), [((1, 2), (1, 2)), ((17, 2), (17, 2))])
        folk = [(0, 9), (1, 8), (9, 0), (8, 1)]
        self.assertEqual(self.assert_least(folk, 2), (1, 2))
        self.assertEqual(square_posts(folk, 2), [((1, 2), (17, 2)), ((17, 2), (1, 2))])

    def test_four_corners_and_the_middle(self):
        folk = [(0, 0), (0, 4), (4, 0), (4, 4), (2, 2)]
        self.assertEqual(self.assert_least(folk, 1), (2, 1))
        self.assertEqual(self.assert_least(folk, 2), (2, 1))

    def test_forty_figures(self):
        folk = [(BIG, -BIG), (-BIG, BIG), (BIG - 1, -BIG)]
        self.assertEqual(self.assert_least(folk, 1), (BIG, 1))
        self.assertEqual(self.assert_least(folk, 2), (1, 2))

    def test_against_all_partings_on_a_small_plane(self):
        ones = list(itertools.product(range(3), range(3)))
        for count in range(5):
            for folk in itertools.combinations_with_replacement(ones, count):
                for many in (1, 2):
                    self.assertEqual(self.assert_least(list(folk), many), pair(reckoned_least(folk, many)))

    def test_against_all_partings(self):
        for folk in many_folk():
            for many in (1, 2):
                self.assertEqual(self.assert_least(folk, many), pair(reckoned_least(folk, many)))

    def test_forty_folk(self):
        for folk in great_folk():
            one = self.assert_least(folk, 1)
            two = self.assert_least(folk, 2)
            self.assertLessEqual(Fraction(*two), Fraction(*one))
        self.assertEqual(square_least(great_folk()[-1], 2), (19, 2))

    def test_folk_moved_turned_and_in_another_order(self):
        for folk in many_folk() + great_folk():
            for many in (1, 2):
                least = square_least(folk, many)
                self.assertEqual(self.assert_least([(x + 10 ** 39, y - 7) for x, y in folk], many), least)
                self.assertEqual(self.assert_least([(-x, y) for x, y in folk], many), least)
                self.assertEqual(self.assert_least([(y, x) for x, y in folk], many), least)
                self.assertEqual(self.assert_least(folk[::-1], many), least)

    def test_no_many(self):
        for call in (square_least, square_posts):
            for folk in ([], [(0, 0)], [(0, 0), (5, 1), (9, 9)]):
                self.assert_no_many(lambda many: call(folk, many))
                for many in (3, 4, BIG):
                    with self.assertRaises(NoMany):
                        call(folk, many)


class ListsTest(SquareTest):
    def test_lists_handed_in_stay_as_they_were(self):
        posts = [((1, 2), (7, 1)), ((0, 1), (0, 1)), ((1, 2), (7, 1))]
        for folk in many_folk() + great_folk():
            handed = copy.deepcopy((folk, posts))
            square_reach(folk, posts)
            for many in (1, 2):
                square_least(folk, many)
                square_posts(folk, many)
            self.assertEqual((folk, posts), handed)

    def test_told_lists_are_the_askers_own(self):
        for folk in many_folk() + great_folk():
            for many in (1, 2):
                self.assert_asker_owns(lambda: square_posts(folk, many))
                self.assertEqual(square_least(folk, many), square_least(folk, many))

    def test_lists_changed_behind_the_call_change_nothing_told(self):
        folk = [(0, 0), (9, 1)]
        told = square_posts(folk, 2)
        kept = copy.deepcopy(told)
        folk.clear()
        self.assertEqual(told, kept)


if __name__ == "__main__":
    unittest.main()
