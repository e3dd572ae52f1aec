import copy
import itertools
import random
import unittest
from fractions import Fraction

from nearposts.errors import NoFolk, NoMany
from nearposts.least import best_posts, least_reach, shown
from nearposts.lines import are_apart, fewest, reach_of
from reckoning import BIG, LITTLE, LineTest, lots, many_folk, pair, reckoned_meeting, reckoned_reach, some_folk


def places_of(folk):
    return sorted({place for place, weight in folk})


def manys_for(folk):
    unlike = len(places_of(folk))
    return sorted({1, 2, 3, 4, max(unlike - 1, 1), max(unlike, 1), unlike + 1, BIG})


def reckoned_least(folk, many):
    def lot_reach(lot):
        meetings = [reckoned_meeting(folk, one, other) for one, other in itertools.combinations(lot, 2)]
        return max(meetings, default=Fraction(0))

    numbers = list(range(len(folk)))
    return min(max(map(lot_reach, parted), default=Fraction(0)) for parted in lots(numbers, many))


class LeastTest(LineTest):
    def assert_posts(self, folk, many, least):
        posts = best_posts(folk, many)
        self.assertIs(type(posts), list)
        for post in posts:
            self.assert_fraction(post)
        self.assert_rising([Fraction(*post) for post in posts])
        self.assertLessEqual(len(posts), many)
        if folk:
            self.assertEqual(pair(reckoned_reach(folk, posts)), least)
        else:
            self.assertEqual(posts, [])
        self.assertEqual(reach_of(folk, posts), least)

    def assert_shown(self, folk, many, least):
        told = shown(folk, many)
        if least == (0, 1):
            self.assertIsNone(told)
            return
        self.assertIs(type(told), list)
        self.assertEqual([type(number) for number in told], [int] * (many + 1))
        self.assert_rising(told)
        for one, other in itertools.combinations(told, 2):
            self.assertGreaterEqual(reckoned_meeting(folk, one, other), Fraction(*least))
        self.assertIs(are_apart(folk, told, least), True)

    # Posts that have the reach, and many + 1 of the folk no two of which a post with less
    # reach serves: together they prove that the reach is the least.
    def assert_least(self, folk, many):
        least = least_reach(folk, many)
        self.assert_fraction(least)
        self.assert_posts(folk, many, least)
        self.assert_shown(folk, many, least)
        return least


class AnswersTest(LeastTest):
    def test_no_folk(self):
        for many in (1, 2, BIG):
            self.assertEqual(least_reach([], many), (0, 1))
            self.assertEqual(best_posts([], many), [])
            self.assertIsNone(shown([], many))

    def test_one_of_the_folk(self):
        for one in ((0, 1), (-7, 3), (BIG, BIG), (-BIG, 1)):
            for many in (1, 2, 3, BIG):
                self.assertEqual(self.assert_least([one], many), (0, 1))
                self.assertEqual(best_posts([one], many), [(one[0], 1)])

    def test_some_alike(self):
        for many in (1, 2, 3, BIG):
            self.assertEqual(self.assert_least([(5, 2)] * 4, many), (0, 1))
        folk = [(5, 2), (9, 1), (5, 2), (9, 1)]
        self.assertEqual(self.assert_least(folk, 1), (8, 3))
        self.assertEqual(self.assert_least(folk, 2), (0, 1))
        self.assertEqual(best_posts(folk, 3), [(5, 1), (9, 1)])

    def test_two_in_one_place_with_unlike_weights(self):
        self.assertEqual(self.assert_least([(4, 2), (4, 9)], 1), (0, 1))
        folk = [(4, 1), (10, 1), (4, 9)]
        self.assertEqual(self.assert_least(folk, 1), (27, 5))
        self.assertEqual(shown(folk, 1), [1, 2])
        self.assertEqual(self.assert_least(folk, 2), (0, 1))

    def test_weights_far_apart(self):
        folk = [(0, 1), (10, BIG), (12, 1)]
        self.assertEqual(self.assert_least(folk, 1), pair(Fraction(10 * BIG, BIG + 1)))
        self.assertEqual(self.assert_least(folk, 2), pair(Fraction(2 * BIG, BIG + 1)))
        self.assertEqual(self.assert_least(folk, 3), (0, 1))
        self.assertEqual(self.assert_least([(-BIG, 1), (BIG, BIG)], 1), pair(Fraction(2 * BIG * BIG, BIG + 1)))

    def test_a_light_one_far_out_may_join_a_heavy_one(self):
        folk = [(0, 1), (20, 1), (21, 50), (30, 50)]
        self.assertEqual(self.assert_least(folk, 2), (350, 17))
        self.assertEqual(self.assert_least(folk, 3), (50, 51))

    def test_the_least_reach_of_some(self):
        folk = [(0, 1), (10, 1), (4, 3)]
        self.assertEqual(self.assert_least(folk, 1), (5, 1))
        self.assertEqual(self.assert_least(folk, 2), (3, 1))
        self.assertEqual(self.assert_least(folk, 3), (0, 1))

    def test_meetings_alike(self):
        self.assertEqual(self.assert_least([(0, 1), (1, 1), (10, 1), (11, 1)], 2), (1, 2))
        self.assertEqual(self.assert_least([(0, 1), (1, 1), (10, 1), (11, 1)], 3), (1, 2))
        folk = [(place, 2) for place in range(12)]
        for many in range(1, 13):
            self.assertEqual(self.assert_least(folk, many), (-(-12 // many) - 1, 1))

    def test_none_is_shown_just_where_the_least_reach_is_0(self):
        for folk in many_folk():
            unlike = len(places_of(folk))
            for many in manys_for(folk):
                self.assertEqual(shown(folk, many) is None, many >= unlike)

    def test_many_folk(self):
        for folk in many_folk():
            told = [Fraction(*self.assert_least(folk, many)) for many in manys_for(folk)]
            self.assertEqual(told, sorted(told, reverse=True))

    def test_forty_folk_at_each_number_of_posts(self):
        folk = some_folk(random.Random(12), 40, 1000, 7)
        for many in range(1, 41):
            self.assert_least(folk, many)

    def test_small_folk_against_all_partings(self):
        ones = [(0, 1), (1, 2), (3, 1), (3, 5), (-2, 3)]
        for count in range(5):
            for folk in itertools.product(ones, repeat=count):
                for many in (1, 2, 3):
                    told = self.assert_least(list(folk), many)
                    self.assertEqual(told, pair(reckoned_least(folk, many)))

    def test_some_folk_against_all_partings(self):
        chance = random.Random(13)
        for count in (5, 6, 7):
            for places, weights in ((9, 3), (BIG, 4), (7, BIG), (BIG, BIG)):
                folk = some_folk(chance, count, places, weights)
                for many in (1, 2, 3, 4):
                    self.assertEqual(self.assert_least(folk, many), pair(reckoned_least(folk, many)))

    def test_fewest_of_the_least_reach_and_of_a_little_less(self):
        for folk in many_folk():
            for many in manys_for(folk):
                least = least_reach(folk, many)
                self.assertLessEqual(len(fewest(folk, least)[0]), many)
                if least != (0, 1):
                    less = pair(Fraction(*least) * (1 - LITTLE ** 4))
                    self.assertGreater(len(fewest(folk, less)[0]), many)

    def test_folk_moved_turned_about_and_in_another_order(self):
        chance = random.Random(14)
        for folk in many_folk():
            for many in (1, 2, 3, 4):
                least = least_reach(folk, many)
                for move in (1, -17, 10 ** 39):
                    moved = [(place + move, weight) for place, weight in folk]
                    self.assertEqual(least_reach(moved, many), least)
                turned = [(-place, weight) for place, weight in folk]
                self.assertEqual(least_reach(turned, many), least)
                mixed = chance.sample(folk, len(folk))
                self.assertEqual(self.assert_least(mixed, many), least)
                self.assertEqual(self.assert_least(folk[::-1], many), least)


class RefusalsTest(LeastTest):
    calls = (least_reach, best_posts, shown)

    def test_no_many_ahead_of_no_folk(self):
        for call in self.calls:
            for folk in ([], [(0, 1)], [(0, 1), (9, 2)], [(0, 0)], [(1, 1), (2, -1)]):
                self.assert_no_many(lambda many: call(folk, many))

    def test_no_folk(self):
        for call in self.calls:
            for many in (1, 2, BIG):
                self.assert_first_bad_weight_is_told(lambda folk: call(folk, many))


class ListsTest(LeastTest):
    def test_lists_handed_in_stay_as_they_were(self):
        for folk in many_folk() + [[(1, 1), (2, 0)]]:
            kept = copy.deepcopy(folk)
            for call in (least_reach, best_posts, shown):
                for many in (0, 1, 2, BIG):
                    try:
                        call(folk, many)
                    except (NoFolk, NoMany):
                        pass
                    self.assertEqual(folk, kept)

    def test_told_lists_are_the_askers_own(self):
        for folk in many_folk():
            for many in (1, 2, 3, BIG):
                self.assert_asker_owns(lambda: best_posts(folk, many))
                self.assert_asker_owns(lambda: shown(folk, many))
                self.assertEqual(least_reach(folk, many), least_reach(folk, many))

    def test_lists_changed_behind_the_call_change_nothing_told(self):
        folk = [(0, 1), (10, 1), (4, 3)]
        told = [least_reach(folk, 2), best_posts(folk, 2), shown(folk, 2)]
        kept = copy.deepcopy(told)
        folk.clear()
        self.assertEqual(told, kept)


if __name__ == "__main__":
    unittest.main()
