import copy
import itertools
import random
import unittest
from fractions import Fraction

from nearposts.errors import NoFolk, NoPosts, NoReach, NoThing
from nearposts.lines import are_apart, fewest, meeting, reach_of
from reckoning import BIG, LITTLE, LineTest, many_folk, pair, reckoned_meeting, reckoned_reach, some_posts


class ReachOfTest(LineTest):
    def test_no_folk(self):
        self.assertEqual(reach_of([], []), (0, 1))
        self.assertEqual(reach_of([], [(1, 2), (7, 1)]), (0, 1))

    def test_one_of_the_folk(self):
        self.assertEqual(reach_of([(3, 1)], [(3, 1)]), (0, 1))
        self.assertEqual(reach_of([(3, 4)], [(5, 1)]), (8, 1))
        self.assertEqual(reach_of([(-3, 4)], [(5, 1)]), (32, 1))

    def test_the_nearest_post_counts(self):
        self.assertEqual(reach_of([(3, 2)], [(-90, 1), (4, 1), (9, 1)]), (2, 1))
        self.assertEqual(reach_of([(3, 2)], [(2, 1), (4, 1)]), (2, 1))

    def test_the_farthest_of_the_folk_counts_by_weight(self):
        self.assertEqual(reach_of([(0, 1), (10, 1), (4, 7)], [(3, 1)]), (7, 1))
        self.assertEqual(reach_of([(0, 1), (10, 1), (5, 7)], [(3, 1)]), (14, 1))

    def test_folk_alike(self):
        self.assertEqual(reach_of([(5, 2), (5, 2), (5, 2)], [(6, 1)]), (2, 1))

    def test_posts_that_are_fractions(self):
        self.assertEqual(reach_of([(1, 1)], [(1, 3)]), (2, 3))
        self.assertEqual(reach_of([(1, 3)], [(1, 3)]), (2, 1))
        self.assertEqual(reach_of([(1, 3)], [(1, 6)]), (5, 2))
        self.assertEqual(reach_of([(-1, 2)], [(-5, 4)]), (1, 2))

    def test_forty_figures(self):
        self.assertEqual(reach_of([(-BIG, BIG)], [(BIG, 1)]), (2 * BIG * BIG, 1))
        self.assertEqual(reach_of([(-BIG, 1)], [(1, BIG)]), (BIG * BIG + 1, BIG))
        self.assertEqual(reach_of([(0, BIG)], [(1, BIG)]), (1, 1))

    def test_as_reckoned_otherwise(self):
        chance = random.Random(6)
        for folk in many_folk():
            for count in (1, 2, 3, 40):
                for places in (60, BIG):
                    posts = some_posts(chance, count, places)
                    told = reach_of(folk, posts)
                    self.assert_fraction(told)
                    self.assertEqual(told, pair(reckoned_reach(folk, posts)))

    def test_no_folk_is_refused_ahead_of_no_posts(self):
        self.assert_first_bad_weight_is_told(lambda folk: reach_of(folk, [(1, 1)]))
        self.assert_first_bad_weight_is_told(lambda folk: reach_of(folk, []))

    def test_folk_without_posts_are_refused(self):
        for folk in ([(0, 1)], [(0, 1), (0, 1)]):
            with self.assertRaises(NoPosts):
                reach_of(folk, [])


class MeetingTest(LineTest):
    def test_two_of_the_folk(self):
        self.assertEqual(meeting([(0, 1), (10, 1)], 0, 1), (5, 1))
        self.assertEqual(meeting([(0, 1), (1, 1)], 0, 1), (1, 2))
        self.assertEqual(meeting([(-2, 2), (9, 9), (4, 3)], 0, 2), (36, 5))

    def test_one_with_itself(self):
        folk = [(7, 3), (-BIG, BIG)]
        self.assertEqual(meeting(folk, 0, 0), (0, 1))
        self.assertEqual(meeting(folk, 1, 1), (0, 1))

    def test_two_in_one_place(self):
        self.assertEqual(meeting([(4, 2), (4, 9)], 0, 1), (0, 1))

    def test_as_reckoned_otherwise_in_both_orders(self):
        for folk in many_folk():
            for one, other in itertools.product(range(len(folk)), repeat=2):
                told = meeting(folk, one, other)
                self.assert_fraction(told)
                self.assertEqual(told, pair(reckoned_meeting(folk, one, other)))

    def test_it_is_the_least_reach_of_one_post(self):
        folk = [(-2, 2), (4, 3)]
        least = min(reckoned_reach(folk, [(top, 5)]) for top in range(-10, 21))
        self.assertEqual(meeting(folk, 0, 1), pair(least))

    def test_no_folk_is_refused_ahead_of_no_thing(self):
        self.assert_first_bad_weight_is_told(lambda folk: meeting(folk, 0, 0))
        self.assert_first_bad_weight_is_told(lambda folk: meeting(folk, -1, 99))

    def test_the_first_number_that_none_has_is_told(self):
        folk = [(0, 1), (5, 2), (7, 1)]
        cases = ((0, 3, 3), (3, 0, 3), (-1, 0, -1), (2, -1, -1), (-3, 3, -3), (3, -3, 3), (BIG, -BIG, BIG))
        for one, other, thing in cases:
            with self.subTest(one=one, other=other):
                with self.assertRaises(NoThing) as caught:
                    meeting(folk, one, other)
                self.assertEqual(caught.exception.thing, thing)
        with self.assertRaises(NoThing) as caught:
            meeting([], 0, 0)
        self.assertEqual(caught.exception.thing, 0)


class FewestTest(LineTest):
    def assert_fewest(self, folk, reach):
        told = fewest(folk, reach)
        self.assertIs(type(told), tuple)
        posts, apart = told
        self.assertEqual([type(posts), type(apart)], [list, list])
        self.assertEqual(len(posts), len(apart))
        for post in posts:
            self.assert_fraction(post)
        for one, other in zip(posts, posts[1:]):
            self.assertLess(Fraction(*one), Fraction(*other))
        for one, other in zip(apart, apart[1:]):
            self.assertLess(one, other)
        for number in apart:
            self.assertIs(type(number), int)
            self.assertIn(number, range(len(folk)))
        for one, other in itertools.combinations(apart, 2):
            self.assertGreater(reckoned_meeting(folk, one, other), Fraction(*reach))
        if folk:
            self.assertNotEqual(posts, [])
            self.assertLessEqual(reckoned_reach(folk, posts), Fraction(*reach))
        return len(posts)

    def test_no_folk(self):
        for reach in ((0, 1), (1, 3), (BIG, 1)):
            posts, apart = fewest([], reach)
            self.assertEqual((posts, apart), ([], []))
            self.assertIsNot(posts, apart)

    def test_reach_0_with_some_alike(self):
        folk = [(4, 2), (-1, 1), (4, 2), (4, 7), (-1, 1), (0, 3)]
        self.assertEqual(self.assert_fewest(folk, (0, 1)), 3)
        self.assertEqual(fewest(folk, (0, 1))[0], [(-1, 1), (0, 1), (4, 1)])

    def test_just_at_below_and_above_a_meeting(self):
        for folk in ([(0, 1), (10, 1)], [(5, 3), (-2, 4)], [(-BIG, BIG), (BIG, BIG - 1)]):
            met = reckoned_meeting(folk, 0, 1)
            self.assertEqual(self.assert_fewest(folk, pair(met)), 1)
            self.assertEqual(self.assert_fewest(folk, pair(met + LITTLE)), 1)
            self.assertEqual(self.assert_fewest(folk, pair(met - LITTLE)), 2)

    def test_each_meeting_of_many_folk(self):
        for folk in many_folk():
            numbers = range(min(len(folk), 8))
            for one, other in itertools.combinations(numbers, 2):
                met = reckoned_meeting(folk, one, other)
                for reach in (met, met + LITTLE, max(met - LITTLE, Fraction(0))):
                    self.assert_fewest(folk, pair(reach))

    def test_small_folk_at_many_reaches(self):
        ones = [(place, weight) for place in (-1, 0, 2) for weight in (1, 2, 3)]
        reaches = sorted({Fraction(top, bottom) for top in range(8) for bottom in (1, 2, 3)})
        for folk in itertools.product(ones, repeat=3):
            for reach in reaches:
                self.assert_fewest(list(folk), pair(reach))

    def test_a_far_reach_needs_one_post(self):
        for folk in many_folk():
            self.assertEqual(self.assert_fewest(folk, (10 ** 90, 1)), min(len(folk), 1))

    def test_what_was_told_may_be_handed_in_again(self):
        for folk in many_folk():
            posts = fewest(folk, (7, 3))[0]
            reach = reach_of(folk, posts)
            self.assert_fraction(reach)
            self.assertLessEqual(Fraction(*reach), Fraction(7, 3))
            self.assertLessEqual(self.assert_fewest(folk, reach), len(folk))

    def test_no_folk_is_refused_ahead_of_no_reach(self):
        self.assert_first_bad_weight_is_told(lambda folk: fewest(folk, (1, 1)))
        self.assert_first_bad_weight_is_told(lambda folk: fewest(folk, (-1, 1)))

    def test_a_reach_below_0_is_refused(self):
        for folk in ([], [(0, 1)], [(0, 1), (9, 4)]):
            for reach in ((-1, 1), (-1, BIG), (-BIG, 2)):
                with self.assertRaises(NoReach):
                    fewest(folk, reach)


class AreApartTest(LineTest):
    folk = [(0, 1), (10, 1), (4, 1), (30, 2)]

    def test_rising_numbers(self):
        self.assertIs(are_apart(self.folk, [0, 1], (5, 1)), True)
        self.assertIs(are_apart(self.folk, [0, 1, 3], (5, 1)), True)
        self.assertIs(are_apart(self.folk, [0, 1, 2], (5, 1)), False)

    def test_two_that_do_not_stand_side_by_side(self):
        self.assertIs(are_apart([(0, 1), (50, 1), (1, 1)], [0, 1, 2], (3, 1)), False)
        self.assertIs(are_apart([(0, 1), (50, 1), (1, 1)], [0, 1, 2], (1, 2)), True)

    def test_numbers_not_rising(self):
        self.assertIs(are_apart(self.folk, [1, 0], (5, 1)), False)
        self.assertIs(are_apart(self.folk, [0, 3, 1], (0, 1)), False)

    def test_a_number_twice(self):
        self.assertIs(are_apart(self.folk, [1, 1], (0, 1)), False)
        self.assertIs(are_apart(self.folk, [0, 1, 1], (-1, 1)), False)

    def test_none_at_all_and_one_alone(self):
        for reach in ((-1, 1), (0, 1), (BIG, 1)):
            self.assertIs(are_apart(self.folk, [], reach), True)
            self.assertIs(are_apart([], [], reach), True)
            for number in range(4):
                self.assertIs(are_apart(self.folk, [number], reach), True)

    def test_a_number_that_none_has(self):
        for numbers in ([4], [-1], [0, 4], [-1, 0], [-4, 0, 1], [BIG], [-BIG]):
            for reach in ((-9, 1), (0, 1), (1, 1)):
                self.assertIs(are_apart(self.folk, numbers, reach), False)
        self.assertIs(are_apart([], [0], (0, 1)), False)

    def test_just_at_below_and_above_a_meeting(self):
        for folk in many_folk():
            numbers = range(min(len(folk), 8))
            for one, other in itertools.combinations(numbers, 2):
                met = reckoned_meeting(folk, one, other)
                self.assertIs(are_apart(folk, [one, other], pair(met)), True)
                self.assertIs(are_apart(folk, [one, other], pair(met - LITTLE)), True)
                self.assertIs(are_apart(folk, [one, other], pair(met + LITTLE)), False)

    def test_reach_0_and_below(self):
        folk = [(4, 2), (4, 2), (4, 9)]
        self.assertIs(are_apart(folk, [0, 1, 2], (0, 1)), True)
        self.assertIs(are_apart(folk, [0, 1, 2], (-1, BIG)), True)
        self.assertIs(are_apart(folk, [0, 1, 2], (1, BIG)), False)

    def test_numbers_told_by_fewest(self):
        for folk in many_folk():
            self.assertIs(are_apart(folk, fewest(folk, (5, 2))[1], (5, 2)), True)

    def test_no_folk_is_refused_ahead_of_all(self):
        for numbers in ([], [0], [-1], [1, 0], [99]):
            self.assert_first_bad_weight_is_told(lambda folk: are_apart(folk, numbers, (1, 1)))


class ListsTest(LineTest):
    def test_lists_handed_in_stay_as_they_were(self):
        posts = [(9, 2), (-1, 3), (9, 2)]
        numbers = [2, 0, 1]
        for folk in many_folk() + [[(1, 1), (2, 0)]]:
            handed = copy.deepcopy((folk, posts, numbers))
            calls = (
                lambda: reach_of(folk, posts),
                lambda: meeting(folk, 0, 1),
                lambda: fewest(folk, (1, 2)),
                lambda: fewest(folk, (-1, 2)),
                lambda: are_apart(folk, numbers, (1, 2)),
            )
            for call in calls:
                try:
                    call()
                except (NoFolk, NoReach, NoThing):
                    pass
                self.assertEqual((folk, posts, numbers), handed)

    def test_the_same_asked_again_is_told_the_same(self):
        for folk in many_folk():
            self.assertEqual(reach_of(folk, [(1, 2)]), reach_of(folk, [(1, 2)]))
            self.assertEqual(fewest(folk, (3, 2)), fewest(folk, (3, 2)))

    def test_told_lists_are_the_askers_own(self):
        for folk in many_folk():
            posts, apart = fewest(folk, (3, 2))
            kept = copy.deepcopy((posts, apart))
            self.assertIsNot(posts, apart)
            posts.append((5, 1))
            apart.clear()
            self.assertEqual(fewest(folk, (3, 2)), kept)

    def test_lists_changed_behind_the_call_change_nothing_told(self):
        folk = [(0, 1), (10, 1)]
        told = fewest(folk, (1, 1))
        kept = copy.deepcopy(told)
        folk.clear()
        self.assertEqual(told, kept)


if __name__ == "__main__":
    unittest.main()
