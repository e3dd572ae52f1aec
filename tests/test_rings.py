import copy
import itertools
import random
import unittest
from fractions import Fraction

from nearposts.errors import NoFolk, NoMany, NoPost, NoPosts, NoRing
from nearposts.rings import ring_holds, ring_least, ring_posts, ring_reach, ring_shown
from reckoning import BIG, ReckoningTest, pair

BAD_RINGS = (0, -1, -BIG)


def reckoned_way(around, one, other):
    return min(abs(one - other + turn * around) for turn in (-1, 0, 1))


def reckoned_reach(around, folk, posts):
    ways = [min(reckoned_way(around, place, Fraction(*post)) for post in posts) for place in folk]
    return max(ways, default=Fraction(0))


# The posts may lie at places and halfway between two: at halves, for whole places.
def reckoned_least(around, folk, many):
    halves = range(2 * around)
    count = min(many, len(set(folk)))
    if count == 0:
        return Fraction(0)
    ways = {half: [reckoned_way(2 * around, 2 * place, half) for place in folk] for half in halves}
    least = min(
        max(min(each) for each in zip(*[ways[half] for half in posts]))
        for posts in itertools.combinations(halves, count)
    )
    return Fraction(least, 2)


def reckoned_next(around, folk, number, reach):
    from_here = number + 2 * reach
    return min(place + -((place - from_here) // around) * around for place in folk)


def reckoned_rows(around, folk, reach, count):
    rows = []
    for place in sorted(set(folk)):
        row = [place]
        while len(row) < count:
            row.append(reckoned_next(around, folk, row[-1], reach))
        rows.append(row)
    return rows


def some_places(chance, around, count):
    return [chance.randrange(around) for at in range(count)]


def many_rings():
    chance = random.Random(21)
    told = [(1, []), (1, [0]), (1, [0, 0]), (9, []), (9, [8]), (9, [3, 3, 3]), (10, [0, 5]), (11, [0, 5, 5, 0])]
    told += [(12, [9, 0, 6, 3]), (13, list(range(13))), (100, [99, 0, 1]), (BIG, []), (BIG, [0, BIG - 1])]
    told += [(BIG, [BIG // 2, 0, BIG // 2 + 1])]
    for count in range(2, 9):
        told.append((30, some_places(chance, 30, count)))
        told.append((997, some_places(chance, 997, count)))
    told.append((60, some_places(chance, 60, 40)))
    told.append((BIG, some_places(chance, BIG, 40)))
    return told


def manys_for(folk):
    unlike = len(set(folk))
    return sorted({1, 2, 3, 4, max(unlike - 1, 1), max(unlike, 1), BIG})


class RingTest(ReckoningTest):
    def assert_no_ring(self, call):
        for bad in BAD_RINGS:
            for folk in ([], [0], [-1], [5, BIG]):
                with self.assertRaises(NoRing):
                    call(bad, folk)

    def assert_first_bad_place_is_told(self, call):
        for around in (1, 7, BIG):
            for bad in (-1, around, around + 1, -BIG, BIG + 1):
                self.assert_no_folk(0, lambda: call(around, [bad]))
                self.assert_no_folk(1, lambda: call(around, [around - 1, bad, 0]))
                self.assert_no_folk(2, lambda: call(around, [0, 0, bad, -1, around]))


class RingReachTest(RingTest):
    def assert_no_post(self, number, call):
        with self.assertRaises(NoPost) as caught:
            call()
        self.assertEqual(caught.exception.number, number)

    def test_no_folk(self):
        for around in (1, 7, BIG):
            self.assertEqual(ring_reach(around, [], []), (0, 1))
            self.assertEqual(ring_reach(around, [], [(0, 1), (1, 2)]), (0, 1))

    def test_the_shorter_way_over_the_place_0(self):
        self.assertEqual(ring_reach(10, [9], [(1, 1)]), (2, 1))
        self.assertEqual(ring_reach(10, [1], [(9, 1)]), (2, 1))
        self.assertEqual(ring_reach(10, [9], [(0, 1)]), (1, 1))
        self.assertEqual(ring_reach(10, [0], [(29, 3)]), (1, 3))

    def test_opposite(self):
        self.assertEqual(ring_reach(10, [0], [(5, 1)]), (5, 1))
        self.assertEqual(ring_reach(11, [0], [(5, 1)]), (5, 1))
        self.assertEqual(ring_reach(11, [0], [(6, 1)]), (5, 1))
        self.assertEqual(ring_reach(11, [0], [(11, 2)]), (11, 2))

    def test_posts_that_are_fractions(self):
        self.assertEqual(ring_reach(10, [1], [(1, 3)]), (2, 3))
        self.assertEqual(ring_reach(10, [1, 4], [(5, 2)]), (3, 2))
        self.assertEqual(ring_reach(10, [9], [(1, 4)]), (5, 4))

    def test_the_nearest_post_and_the_farthest_of_the_folk(self):
        self.assertEqual(ring_reach(20, [3, 4, 3], [(10, 1), (4, 1), (19, 1)]), (1, 1))
        self.assertEqual(ring_reach(20, [3, 4, 15], [(10, 1), (4, 1), (3, 1)]), (5, 1))

    def test_around_1(self):
        self.assertEqual(ring_reach(1, [0, 0], [(0, 1)]), (0, 1))
        self.assertEqual(ring_reach(1, [0], [(1, 2)]), (1, 2))
        self.assertEqual(ring_reach(1, [0], [(3, 4)]), (1, 4))
        self.assertEqual(ring_reach(1, [0], [(BIG - 1, BIG)]), (1, BIG))

    def test_forty_figures(self):
        self.assertEqual(ring_reach(BIG, [BIG - 1], [(1, 1)]), (2, 1))
        self.assertEqual(ring_reach(BIG, [0], [(BIG // 2, 1)]), (BIG // 2, 1))
        self.assertEqual(ring_reach(BIG, [BIG - 1], [(1, BIG)]), (BIG + 1, BIG))

    def test_as_reckoned_otherwise(self):
        chance = random.Random(22)
        for around, folk in many_rings():
            for count in (1, 2, 5, 40):
                posts = []
                while len(posts) < count:
                    bottom = chance.choice((1, 2, 3, 7, BIG))
                    posts.append(pair(Fraction(chance.randrange(around * bottom), bottom)))
                told = ring_reach(around, folk, posts)
                self.assert_fraction(told)
                self.assertEqual(told, pair(reckoned_reach(around, folk, posts)))

    def test_no_ring_ahead_of_all(self):
        for posts in ([], [(0, 1)], [(-1, 1)]):
            self.assert_no_ring(lambda around, folk: ring_reach(around, folk, posts))

    def test_no_folk_ahead_of_no_posts_and_no_post(self):
        for posts in ([], [(0, 1)], [(-1, 1)]):
            self.assert_first_bad_place_is_told(lambda around, folk: ring_reach(around, folk, posts))

    def test_folk_without_posts_are_refused(self):
        for around, folk in ((1, [0]), (7, [0, 6]), (BIG, [BIG - 1])):
            with self.assertRaises(NoPosts):
                ring_reach(around, folk, [])

    def test_the_first_post_that_is_no_place_is_told(self):
        for around in (1, 7, BIG):
            bad_posts = ((-1, 1), (-1, BIG), (around, 1), (around * 3 + 1, 3), (around + 1, 1), (BIG + 1, 1))
            for folk in ([], [0], [0, around - 1]):
                for bad in bad_posts:
                    self.assert_no_post(0, lambda: ring_reach(around, folk, [bad]))
                    self.assert_no_post(1, lambda: ring_reach(around, folk, [(0, 1), bad, (0, 1)]))
                    self.assert_no_post(2, lambda: ring_reach(around, folk, [(0, 1), (0, 1), bad, (-5, 1)]))

    def test_a_post_just_below_around(self):
        for around in (1, 7, BIG):
            self.assertEqual(ring_reach(around, [0], [(around * 5 - 1, 5)]), (1, 5))
            self.assertEqual(ring_reach(around, [], [(around * 5 - 1, 5)]), (0, 1))


class RingLeastTest(RingTest):
    def assert_posts(self, around, folk, many, least):
        posts = ring_posts(around, folk, many)
        self.assertIs(type(posts), list)
        for post in posts:
            self.assert_fraction(post)
            self.assertTrue(0 <= Fraction(*post) < around)
        self.assert_rising([Fraction(*post) for post in posts])
        self.assertLessEqual(len(posts), many)
        self.assertEqual(posts == [], folk == [])
        self.assertEqual(pair(reckoned_reach(around, folk, posts)), least)
        self.assertEqual(ring_reach(around, folk, posts), least)

    # Each step is looked at by itself: a place of the folk plus rounds, at least twice the
    # reach above the one ahead, and none of the folk stands between those two bounds.
    def assert_step(self, around, folk, one, other, reach):
        self.assertIn(other % around, folk)
        self.assertGreaterEqual((other - one) * reach[1], 2 * reach[0])
        for place in set(folk):
            last_ahead = other - 1 - (other - 1 - place) % around
            self.assertLess((last_ahead - one) * reach[1], 2 * reach[0])

    def assert_shown(self, around, folk, many, least):
        rows = ring_shown(around, folk, many)
        if least == (0, 1):
            self.assertIsNone(rows)
            return
        self.assertIs(type(rows), list)
        self.assertEqual([row[0] for row in rows], sorted(set(folk)))
        for row in rows:
            self.assertIs(type(row), list)
            self.assertEqual([type(number) for number in row], [int] * (many + 1))
            for one, other in zip(row, row[1:]):
                self.assert_step(around, folk, one, other, least)
            self.assertLess(row[-1], row[0] + around)
        self.assertEqual(rows, reckoned_rows(around, folk, Fraction(*least), many + 1))
        self.assertIs(ring_holds(around, folk, least, rows), True)

    def assert_least(self, around, folk, many):
        least = ring_least(around, folk, many)
        self.assert_fraction(least)
        self.assert_posts(around, folk, many, least)
        self.assert_shown(around, folk, many, least)
        return least

    def test_no_folk(self):
        for around in (1, 2, BIG):
            for many in (1, 2, BIG):
                self.assertEqual(ring_least(around, [], many), (0, 1))
                self.assertEqual(ring_posts(around, [], many), [])
                self.assertIsNone(ring_shown(around, [], many))

    def test_one_of_the_folk(self):
        for around, place in ((1, 0), (9, 0), (9, 8), (BIG, BIG - 1)):
            for many in (1, 2, BIG):
                self.assertEqual(self.assert_least(around, [place], many), (0, 1))
                self.assertEqual(ring_posts(around, [place], many), [(place, 1)])

    def test_some_alike(self):
        self.assertEqual(self.assert_least(9, [3, 3, 3], 1), (0, 1))
        self.assertEqual(self.assert_least(9, [3, 8, 3, 8, 8], 1), (2, 1))
        self.assertEqual(self.assert_least(9, [3, 8, 3, 8, 8], 2), (0, 1))

    def test_folk_opposite_one_another(self):
        self.assertEqual(self.assert_least(10, [0, 5], 1), (5, 2))
        self.assertEqual(self.assert_least(10, [5, 0], 2), (0, 1))
        self.assertEqual(ring_shown(10, [5, 0], 1), [[0, 5], [5, 10]])
        self.assertEqual(self.assert_least(11, [0, 5], 1), (5, 2))
        self.assertEqual(ring_shown(11, [0, 5], 1), [[0, 5], [5, 11]])
        self.assertEqual(self.assert_least(12, [0, 3, 6, 9], 1), (9, 2))
        self.assertEqual(self.assert_least(12, [0, 3, 6, 9], 2), (3, 2))
        self.assertEqual(ring_shown(12, [9, 0, 3, 6], 2)[3], [9, 12, 15])

    def test_over_the_place_0(self):
        self.assertEqual(self.assert_least(100, [99, 0, 1], 1), (1, 1))
        self.assertEqual(ring_posts(100, [99, 0, 1], 1), [(0, 1)])
        self.assertEqual(self.assert_least(100, [98, 1], 1), (3, 2))
        self.assertEqual(ring_posts(100, [98, 1], 1), [(199, 2)])

    def test_not_each_of_the_folk_is_the_best_first_one(self):
        self.assertEqual(self.assert_least(20, [0, 4, 5, 9, 10, 14], 3), (2, 1))
        self.assertEqual(self.assert_least(20, [19, 0, 9, 10], 2), (1, 2))

    def test_around_1(self):
        for many in (1, 2, BIG):
            self.assertEqual(self.assert_least(1, [0, 0], many), (0, 1))

    def test_small_rings_against_all_posts(self):
        for around in range(1, 8):
            for places in itertools.product((False, True), repeat=around):
                folk = [place for place in range(around) if places[place]]
                for many in (1, 2, 3, 4):
                    told = self.assert_least(around, folk, many)
                    self.assertEqual(told, pair(reckoned_least(around, folk, many)))

    def test_some_rings_against_all_posts(self):
        chance = random.Random(23)
        for around in (11, 16, 23):
            for count in (4, 6, 9):
                folk = some_places(chance, around, count)
                for many in (1, 2, 3):
                    self.assertEqual(self.assert_least(around, folk, many), pair(reckoned_least(around, folk, many)))

    def test_many_rings(self):
        for around, folk in many_rings():
            told = [Fraction(*self.assert_least(around, folk, many)) for many in manys_for(folk)]
            self.assertEqual(told, sorted(told, reverse=True))

    def test_none_is_shown_just_where_the_least_reach_is_0(self):
        for around, folk in many_rings():
            for many in manys_for(folk):
                self.assertEqual(ring_shown(around, folk, many) is None, many >= len(set(folk)))

    def test_forty_folk(self):
        for around in (1000, BIG):
            folk = some_places(random.Random(24), around, 40)
            for many in (1, 2, 3, 4, 9, 19, 30, 38, 39, 40):
                self.assert_least(around, folk, many)

    def test_folk_turned_round_and_in_another_order(self):
        chance = random.Random(25)
        for around, folk in many_rings():
            for many in (1, 2, 3, 4):
                least = ring_least(around, folk, many)
                for turn in (1, around - 1, around // 2, chance.randrange(around)):
                    turned = [(place + turn) % around for place in folk]
                    self.assertEqual(self.assert_least(around, turned, many), least)
                mirrored = [-place % around for place in folk]
                self.assertEqual(self.assert_least(around, mirrored, many), least)
                self.assertEqual(self.assert_least(around, folk[::-1], many), least)

    def test_refusals_in_their_order(self):
        for call in (ring_least, ring_posts, ring_shown):
            for around in (1, 7, 0, -BIG):
                for folk in ([], [0], [-1], [7, 0]):
                    self.assert_no_many(lambda many: call(around, folk, many))
            for many in (1, 2, BIG):
                self.assert_no_ring(lambda around, folk: call(around, folk, many))
                self.assert_first_bad_place_is_told(lambda around, folk: call(around, folk, many))


class RingHoldsTest(RingTest):
    rights = (
        (10, [0, 5], (5, 2), [[0, 5], [5, 10]]),
        (10, [5, 0, 5], (1, 3), [[0, 5], [5, 10]]),
        (12, [0, 3, 6, 9], (3, 2), [[0, 3], [3, 6], [6, 9], [9, 12]]),
        (12, [0, 3, 6, 9], (3, 2), [[0, 3, 6], [3, 6, 9], [6, 9, 12], [9, 12, 15]]),
        (12, [0, 3, 6, 9], (3, 2), [[0, 3, 6, 9], [3, 6, 9, 12], [6, 9, 12, 15], [9, 12, 15, 18]]),
        (12, [0, 3, 6, 9], (5, 3), [[0, 6], [3, 9], [6, 12], [9, 15]]),
        (20, [7, 1, 12], (2, 1), [[1, 7, 12], [7, 12, 21], [12, 21, 27]]),
        (BIG, [1, BIG - 1], (1, 1), [[1, BIG - 1], [BIG - 1, BIG + 1]]),
    )

    def assert_false(self, around, folk, reach, rows):
        self.assertIs(ring_holds(around, folk, reach, rows), False, (around, folk, reach, rows))

    def test_right_rows(self):
        for around, folk, reach, rows in self.rights:
            self.assertIs(ring_holds(around, folk, reach, rows), True)

    def test_a_row_left_out_turned_or_twice(self):
        for around, folk, reach, rows in self.rights:
            self.assert_false(around, folk, reach, [])
            self.assert_false(around, folk, reach, rows[::-1])
            self.assert_false(around, folk, reach, rows[1:] + rows[:1])
            for at, row in enumerate(rows):
                self.assert_false(around, folk, reach, rows[:at] + rows[at + 1:])
                self.assert_false(around, folk, reach, rows[:at] + [row[::-1]] + rows[at + 1:])
                self.assert_false(around, folk, reach, rows[:at] + [row] + rows[at:])
                for other in range(len(rows)):
                    if other != at:
                        self.assert_false(around, folk, reach, rows[:at] + [list(rows[other])] + rows[at + 1:])

    def test_a_number_one_more_or_less_or_a_round_on(self):
        for around, folk, reach, rows in self.rights:
            for at, row in enumerate(rows):
                for place in range(len(row)):
                    for more in (1, -1, around, -around, BIG, -BIG):
                        changed = copy.deepcopy(rows)
                        changed[at][place] += more
                        self.assert_false(around, folk, reach, changed)

    def test_a_whole_row_a_round_on(self):
        for around, folk, reach, rows in self.rights:
            for at in range(len(rows)):
                changed = copy.deepcopy(rows)
                changed[at] = [number + around for number in rows[at]]
                self.assert_false(around, folk, reach, changed)

    def test_a_number_left_out_or_put_behind(self):
        for around, folk, reach, rows in self.rights:
            for at, row in enumerate(rows):
                for place in range(len(row)):
                    changed = copy.deepcopy(rows)
                    changed[at].pop(place)
                    self.assert_false(around, folk, reach, changed)
                changed = copy.deepcopy(rows)
                changed[at].append(reckoned_next(around, folk, row[-1], Fraction(*reach)))
                self.assert_false(around, folk, reach, changed)
                changed[at] = []
                self.assert_false(around, folk, reach, changed)

    def test_rows_of_one_number_and_of_none(self):
        for around, folk, reach, rows in self.rights:
            self.assert_false(around, folk, reach, [row[:1] for row in rows])
            self.assert_false(around, folk, reach, [[] for row in rows])

    def test_the_last_one_just_round_and_beyond(self):
        self.assert_false(10, [0, 5], (5, 2), [[0, 5, 10], [5, 10, 15]])
        self.assert_false(10, [4], (1, 1), [[4, 14]])
        self.assert_false(1, [0], (1, 2), [[0, 1]])
        self.assert_false(20, [7, 1, 12], (3, 1), [[1, 7, 21], [7, 21, 27], [12, 21, 27]])
        self.assert_false(20, [7, 1, 12], (BIG, 1), [[1, BIG], [7, BIG], [12, BIG]])

    def test_one_row_alone_that_comes_round(self):
        self.assertIs(ring_holds(13, [0, 5, 9], (4, 1), [[0, 9], [5, 13], [9, 18]]), True)
        self.assert_false(13, [0, 5, 9], (9, 2), [[0, 9], [5, 18], [9, 18]])

    def test_reach_0(self):
        for around, folk, reach, rows in self.rights:
            self.assert_false(around, folk, (0, 1), rows)
            self.assert_false(around, folk, (0, 1), reckoned_rows(around, folk, Fraction(1, 2), 2))
            self.assert_false(around, folk, (0, 1), [])
            self.assert_false(around, [], (0, 1), [])
            self.assert_false(around, [], (0, 1), rows)

    def test_without_folk(self):
        for around in (1, 10, BIG):
            for reach in ((1, BIG), (1, 2), (BIG, 1)):
                self.assertIs(ring_holds(around, [], reach, []), True)
                for rows in ([[]], [[0]], [[0, 5], [5, 10]]):
                    self.assert_false(around, [], reach, rows)

    def test_steps_of_less_and_of_more_than_twice_the_reach(self):
        rows = [[0, 3], [3, 6], [6, 9], [9, 12]]
        for reach, holds in (((3, 2), True), ((4, 3), True), ((1, BIG), True), ((5, 3), False), ((2, 1), False)):
            self.assertIs(ring_holds(12, [0, 3, 6, 9], reach, rows), holds)
        rows = [[0, 1], [1, 7], [7, 12]]
        self.assertIs(ring_holds(12, [0, 1, 7], (1, 2), rows), True)
        self.assertIs(ring_holds(12, [0, 1, 7], (1, 3), rows), True)
        self.assertIs(ring_holds(12, [0, 1, 7], (3, 5), rows), False)

    def test_small_rings_at_many_reaches(self):
        reaches = sorted({Fraction(top, bottom) for top in range(1, 9) for bottom in (1, 2, 3)})
        for around in range(1, 7):
            for places in itertools.product((False, True), repeat=around):
                folk = [place for place in range(around) if places[place]]
                for reach in reaches:
                    for count in (1, 2, 3, 4, 5):
                        rows = reckoned_rows(around, folk, reach, count)
                        holds = not folk or count > 1 and all(row[-1] < row[0] + around for row in rows)
                        self.assertIs(ring_holds(around, folk, pair(reach), rows), holds)

    def test_rows_told_by_ring_shown_with_fewer_steps(self):
        for around, folk in many_rings():
            for many in (1, 2, 3, 4):
                rows = ring_shown(around, folk, many)
                if rows is not None:
                    least = ring_least(around, folk, many)
                    for count in range(2, many + 2):
                        self.assertIs(ring_holds(around, folk, least, [row[:count] for row in rows]), True)

    def test_refusals(self):
        for reach in ((0, 1), (1, 2)):
            for rows in ([], [[0, 5], [5, 10]]):
                self.assert_no_ring(lambda around, folk: ring_holds(around, folk, reach, rows))
                self.assert_first_bad_place_is_told(lambda around, folk: ring_holds(around, folk, reach, rows))


class ListsTest(RingTest):
    def test_lists_handed_in_stay_as_they_were(self):
        posts = [(1, 2), (0, 1), (1, 2)]
        for around, folk in many_rings() + [(5, [4, 9, 0]), (0, [1, 0])]:
            rows = reckoned_rows(max(around, 1), folk, Fraction(1, 2), 3)
            handed = copy.deepcopy((folk, posts, rows))
            calls = (
                lambda: ring_reach(around, folk, posts),
                lambda: ring_least(around, folk, 2),
                lambda: ring_posts(around, folk, 2),
                lambda: ring_shown(around, folk, 2),
                lambda: ring_shown(around, folk, 0),
                lambda: ring_holds(around, folk, (1, 2), rows),
            )
            for call in calls:
                try:
                    call()
                except (NoFolk, NoMany, NoRing):
                    pass
                self.assertEqual((folk, posts, rows), handed)

    def test_told_lists_are_the_askers_own(self):
        for around, folk in many_rings():
            for many in (1, 2, 3, BIG):
                self.assert_asker_owns(lambda: ring_posts(around, folk, many))
                self.assert_asker_owns(lambda: ring_shown(around, folk, many))
                self.assertEqual(ring_least(around, folk, many), ring_least(around, folk, many))

    def test_lists_changed_behind_the_call_change_nothing_told(self):
        folk = [0, 5, 7]
        told = [ring_posts(10, folk, 2), ring_shown(10, folk, 2)]
        kept = copy.deepcopy(told)
        folk.clear()
        self.assertEqual(told, kept)


if __name__ == "__main__":
    unittest.main()
