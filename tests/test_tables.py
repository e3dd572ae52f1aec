import copy
import itertools
import random
import unittest

from nearposts.errors import NoMany, NoPost, NoPosts, NoTable, NoThing, NoWay
from nearposts.tables import Ways, best_table, farthest_first, table_reach, within_twice
from reckoning import BIG, ReckoningTest

FAR = (10 ** 39, BIG)


def shortened(table):
    """The table with each way as short as ways round make it."""
    things = range(len(table))
    for through in things:
        table = [[min(table[i][j], table[i][through] + table[through][j]) for j in things] for i in things]
    return table


def some_table(chance, count, least, most):
    table = [[0] * count for at in range(count)]
    for one, other in itertools.combinations(range(count), 2):
        table[one][other] = table[other][one] = chance.randint(least, most)
    return shortened(table)


def line_table(places):
    return [[abs(one - other) for other in places] for one in places]


def small_tables():
    chance = random.Random(41)
    told = [[[0]], [[0, 0], [0, 0]], [[0, 5], [5, 0]], [[0, BIG], [BIG, 0]], line_table([3, 3, 3])]
    told += [line_table([0, 1, 2, 3, 4]), line_table([4, 0, 9, 0, 4, 9]), line_table([0, 1, 3, 7, 15, 31, 63])]
    for count in range(2, 8):
        for least, most in ((0, 2), (1, 2), (1, 9), (10, 99), (BIG // 2, BIG), FAR):
            told.append(some_table(chance, count, least, most))
    return told


def great_tables():
    chance = random.Random(42)
    told = [some_table(chance, 12, least, most) for least, most in ((0, 3), (1, 3), (1, 60), FAR)]
    told += [line_table(range(12)), line_table([at // 2 for at in range(12)]), line_table([0] * 12)]
    told.append([[0 if one == other else 7 for other in range(12)] for one in range(12)])
    return told


def all_tables():
    return small_tables() + great_tables()


def manys_for(table):
    return list(range(1, len(table) + 3)) + [BIG]


def reckoned_reach(table, posts):
    return max(min(table[thing][post] for post in posts) for thing in range(len(table)))


def reckoned_first(table, many, first):
    told = [first]
    while len(told) < many:
        left = [(-min(table[thing][each] for each in told), thing) for thing in range(len(table))]
        if min(left)[0] == 0:
            break
        told.append(min(left)[1])
    return told


def reckoned_refusal(table):
    things = range(len(table))
    if not table:
        return NoTable, {"row": 0}
    for i in things:
        if len(table[i]) != len(table):
            return NoTable, {"row": i}
    for i in things:
        if table[i][i] != 0 or min(table[i]) < 0 or any(table[i][j] != table[j][i] for j in things):
            return NoTable, {"row": i}
    for i, j, k in itertools.product(things, repeat=3):
        if table[i][k] > table[i][j] + table[j][k]:
            return NoWay, {"three": (i, j, k)}
    return None


class TableTest(ReckoningTest):
    def assert_list_of_things(self, told, ways):
        self.assertIs(type(told), list)
        for thing in told:
            self.assertIs(type(thing), int)
            self.assertIn(thing, range(ways.count))

    def assert_ways(self, table):
        ways = Ways(table)
        self.assertIs(type(ways.count), int)
        self.assertEqual(ways.count, len(table))
        self.assertIs(type(ways.rows), tuple)
        self.assertEqual([type(row) for row in ways.rows], [tuple] * len(table))
        self.assertEqual(ways.rows, tuple(tuple(row) for row in table))

    def assert_no_table(self, row, table):
        self.assert_refused(NoTable, {"row": row}, lambda: Ways(table))

    def assert_no_way(self, three, table):
        self.assert_refused(NoWay, {"three": three}, lambda: Ways(table))


class WaysTest(TableTest):
    def test_one_thing(self):
        self.assert_ways([[0]])

    def test_count_and_rows(self):
        for table in all_tables():
            self.assert_ways(table)

    def test_a_way_round_that_is_as_long_is_no_shorter(self):
        self.assert_ways([[0, 1, 3], [1, 0, 2], [3, 2, 0]])
        self.assert_ways([[0, BIG - 1, BIG], [BIG - 1, 0, 1], [BIG, 1, 0]])

    def test_no_row(self):
        self.assert_no_table(0, [])

    def test_rows_of_another_count(self):
        self.assert_no_table(0, [[]])
        self.assert_no_table(0, [[0, 0]])
        self.assert_no_table(0, [[0], [0]])
        self.assert_no_table(1, [[0, 1], [1]])
        self.assert_no_table(1, [[0, 1], [1, 0, 1]])
        self.assert_no_table(2, [[0, 1, 1], [1, 0, 1], []])
        self.assert_no_table(1, [[0, 1, 1], [1, 0, 1, 1], [1, 1]])

    def test_another_count_is_ahead_of_all_that_stands_in_the_rows(self):
        self.assert_no_table(1, [[-1, 5], [7]])
        self.assert_no_table(2, [[4, -1, 2], [3, 3, 3], [1]])
        self.assert_no_table(2, [[0, 1, 9], [1, 0, 1], [9, 1, 0, 2]])

    def test_a_number_below_0(self):
        self.assert_no_table(0, [[0, -1], [-1, 0]])
        self.assert_no_table(0, [[0, -BIG], [-BIG, 0]])
        self.assert_no_table(0, [[-1]])
        self.assert_no_table(1, [[0, 1, 1], [1, 0, -1], [1, -1, 0]])
        self.assert_no_table(2, [[0, 1, 1], [1, 0, 1], [1, 1, -2]])

    def test_a_thing_that_is_not_at_0_from_itself(self):
        self.assert_no_table(0, [[1]])
        self.assert_no_table(0, [[BIG]])
        self.assert_no_table(1, [[0, 1], [1, 1]])
        self.assert_no_table(2, [[0, 1, 1], [1, 0, 1], [1, 1, 5]])

    def test_two_that_are_unlike(self):
        self.assert_no_table(0, [[0, 1], [2, 0]])
        self.assert_no_table(0, [[0, 2], [1, 0]])
        self.assert_no_table(0, [[0, 1, 1], [1, 0, 1], [2, 1, 0]])
        self.assert_no_table(1, [[0, 1, 1], [1, 0, 2], [1, 1, 0]])
        self.assert_no_table(0, [[0, 1], [-1, 0]])
        self.assert_no_table(0, [[0, BIG], [BIG - 1, 0]])

    def test_the_first_row_of_which_one_of_these_is_so(self):
        self.assert_no_table(0, [[3, 1, 1], [1, 0, -1], [1, -1, 0]])
        self.assert_no_table(1, [[0, 1, 1], [1, 4, 1], [1, 1, -2]])
        self.assert_no_table(1, [[0, 1, 1, 1], [1, 0, 1, -1], [1, 1, 7, 1], [1, -1, 1, 0]])
        self.assert_no_table(0, [[0, 1, 1], [1, 3, 1], [2, 1, 0]])

    def test_no_way_tells_the_first_three(self):
        self.assert_no_way((0, 1, 2), [[0, 1, 3], [1, 0, 1], [3, 1, 0]])
        self.assert_no_way((0, 2, 1), [[0, 3, 1], [3, 0, 1], [1, 1, 0]])
        self.assert_no_way((1, 0, 2), [[0, 1, 1], [1, 0, 3], [1, 3, 0]])
        self.assert_no_way((1, 3, 2), [[0, 5, 5, 5], [5, 0, 5, 2], [5, 5, 0, 2], [5, 2, 2, 0]])
        self.assert_no_way((0, 1, 2), [[0, BIG - 1, BIG], [BIG - 1, 0, 0], [BIG, 0, 0]])
        self.assert_no_way((0, 1, 2), [[0, 0, 1], [0, 0, 0], [1, 0, 0]])

    def test_no_table_is_ahead_of_no_way(self):
        self.assert_no_table(2, [[0, 1, 3], [1, 0, 1], [3, 1, 1]])
        self.assert_no_table(3, [[0, 1, 3, 1], [1, 0, 1, 1], [3, 1, 0, 1], [1, 1, 1]])

    def test_all_little_tables(self):
        tables = [[list(row)] for row in itertools.product(range(-2, 3), repeat=1)]
        for count, numbers in ((2, range(-2, 3)), (3, range(3))):
            for told in itertools.product(numbers, repeat=count * count):
                tables.append([list(told[at * count:(at + 1) * count]) for at in range(count)])
        for table in tables:
            refusal = reckoned_refusal(table)
            if refusal is None:
                self.assert_ways(table)
            else:
                self.assert_refused(*refusal, lambda: Ways(table))

    def test_a_number_changed_in_a_right_table(self):
        chance = random.Random(43)
        refused = set()
        for table in all_tables() * 4:
            table = copy.deepcopy(table)
            i, j = chance.randrange(len(table)), chance.randrange(len(table))
            table[i][j] += chance.choice((-BIG, -1, 1, BIG))
            if chance.randrange(3):
                table[j][i] = table[i][j]
            refusal = reckoned_refusal(table)
            if refusal is None:
                self.assert_ways(table)
            else:
                refused.add(refusal[0])
                self.assert_refused(*refusal, lambda: Ways(table))
        self.assertEqual(refused, {NoTable, NoWay})


class TableReachTest(TableTest):
    def test_some_posts(self):
        ways = Ways(line_table([0, 10, 4, 30]))
        self.assertEqual(table_reach(ways, [0]), 30)
        self.assertEqual(table_reach(ways, [2]), 26)
        self.assertEqual(table_reach(ways, [3, 0]), 10)
        self.assertEqual(table_reach(ways, [1, 3, 1]), 10)
        self.assertEqual(table_reach(ways, [0, 1, 2, 3]), 0)

    def test_each_list_of_posts(self):
        for table in small_tables():
            ways = Ways(table)
            for count in (1, 2, 3):
                for posts in itertools.product(range(len(table)), repeat=count):
                    told = table_reach(ways, list(posts))
                    self.assertIs(type(told), int)
                    self.assertEqual(told, reckoned_reach(table, posts))

    def test_some_alike_and_all(self):
        chance = random.Random(44)
        for table in great_tables():
            ways = Ways(table)
            self.assertEqual(table_reach(ways, list(range(len(table)))), 0)
            for count in (1, 2, 5, 12, 40):
                posts = [chance.randrange(len(table)) for at in range(count)]
                self.assertEqual(table_reach(ways, posts), reckoned_reach(table, posts))

    def test_no_posts(self):
        for table in all_tables():
            self.assert_refused(NoPosts, {}, lambda: table_reach(Ways(table), []))

    def test_no_post_tells_the_place_in_the_list(self):
        for table in all_tables():
            ways = Ways(table)
            for bad in (-1, -len(table), -BIG, len(table), len(table) + 1, BIG):
                for posts, number in (([bad], 0), ([0, bad], 1), ([0, 0, bad, -1, bad, 0], 2), ([bad, -1, 0], 0)):
                    self.assert_refused(NoPost, {"number": number}, lambda: table_reach(ways, posts))


class FarthestFirstTest(TableTest):
    def test_on_a_line(self):
        ways = Ways(line_table([0, 10, 4, 30]))
        self.assertEqual(farthest_first(ways, 1, 2), [2])
        self.assertEqual(farthest_first(ways, 2, 2), [2, 3])
        self.assertEqual(farthest_first(ways, 3, 2), [2, 3, 1])
        self.assertEqual(farthest_first(ways, 4, 2), [2, 3, 1, 0])
        self.assertEqual(farthest_first(ways, BIG, 0), [0, 3, 1, 2])

    def test_of_several_that_are_as_far_the_least(self):
        ways = Ways(line_table([5, 0, 10, 5]))
        self.assertEqual(farthest_first(ways, 4, 0), [0, 1, 2])
        self.assertEqual(farthest_first(ways, 4, 3), [3, 1, 2])
        self.assertEqual(farthest_first(ways, 4, 2), [2, 1, 0])
        seven = Ways([[0 if one == other else 7 for other in range(12)] for one in range(12)])
        self.assertEqual(farthest_first(seven, 12, 5), [5, 0, 1, 2, 3, 4, 6, 7, 8, 9, 10, 11])

    def test_things_at_no_way_from_one_told_are_left_out(self):
        self.assertEqual(farthest_first(Ways(line_table([3, 3, 3])), 3, 1), [1])
        self.assertEqual(farthest_first(Ways(line_table([3, 8, 3, 8])), BIG, 3), [3, 0])

    def test_each_many_and_each_first_thing(self):
        for table in all_tables():
            ways = Ways(table)
            for first in range(len(table)):
                for many in manys_for(table):
                    told = farthest_first(ways, many, first)
                    self.assert_list_of_things(told, ways)
                    self.assertEqual(told, reckoned_first(table, many, first))

    def test_no_thing(self):
        for table in all_tables():
            ways = Ways(table)
            for bad in (-1, -len(table), -BIG, len(table), len(table) + 1, BIG):
                for many in (1, 2, BIG):
                    self.assert_refused(NoThing, {"thing": bad}, lambda: farthest_first(ways, many, bad))

    def test_no_many_is_ahead_of_no_thing(self):
        ways = Ways(line_table([0, 10]))
        for first in (0, 1, -1, 2, BIG):
            self.assert_no_many(lambda many: farthest_first(ways, many, first))


class WithinTwiceTest(TableTest):
    def assert_within_twice(self, table, many):
        ways = Ways(table)
        told = within_twice(ways, many)
        self.assertIs(type(told), tuple)
        posts, reach, apart = told
        self.assert_list_of_things(posts, ways)
        self.assertEqual(posts, reckoned_first(table, many, 0))
        self.assertIs(type(reach), int)
        self.assertEqual(reach, reckoned_reach(table, posts))
        self.assertEqual(reach, table_reach(ways, posts))
        if reach == 0:
            self.assertIsNone(apart)
        else:
            self.assert_list_of_things(apart, ways)
            self.assertEqual(len(apart), many + 1)
            self.assert_rising(apart)
            for one, other in itertools.combinations(apart, 2):
                self.assertGreaterEqual(table[one][other], reach)
        return reach

    def test_on_a_line(self):
        ways = Ways(line_table([0, 10, 4, 30]))
        self.assertEqual(within_twice(ways, 1), ([0], 30, [0, 3]))
        self.assertEqual(within_twice(ways, 2), ([0, 3], 10, [0, 1, 3]))
        self.assertEqual(within_twice(ways, 3), ([0, 3, 1], 4, [0, 1, 2, 3]))
        self.assertEqual(within_twice(ways, 4), ([0, 3, 1, 2], 0, None))
        self.assertEqual(within_twice(ways, BIG), ([0, 3, 1, 2], 0, None))

    def test_each_many(self):
        for table in all_tables():
            for many in manys_for(table):
                self.assert_within_twice(table, many)

    def test_at_most_twice_as_far_as_any_things(self):
        for table in all_tables():
            ways = Ways(table)
            for many in manys_for(table):
                best = table_reach(ways, best_table(ways, many))
                self.assertLessEqual(best, self.assert_within_twice(table, many))
                self.assertLessEqual(self.assert_within_twice(table, many), 2 * best)

    def test_no_many(self):
        for table in all_tables():
            self.assert_no_many(lambda many: within_twice(Ways(table), many))


class BestTableTest(TableTest):
    def test_on_a_line(self):
        ways = Ways(line_table([0, 10, 4, 30]))
        self.assertEqual(best_table(ways, 1), [1])
        self.assertEqual(best_table(ways, 2), [2, 3])
        self.assertEqual(best_table(ways, 3), [0, 1, 3])
        self.assertEqual(best_table(ways, 4), [0, 1, 2, 3])
        self.assertEqual(best_table(ways, 5), [0, 1, 2, 3])

    def test_things_alike_are_told_too(self):
        ways = Ways(line_table([3, 3, 3]))
        for many, told in ((1, [0]), (2, [0, 1]), (3, [0, 1, 2]), (4, [0, 1, 2]), (BIG, [0, 1, 2])):
            self.assertEqual(best_table(ways, many), told)

    def test_against_all_rising_lists(self):
        for table in all_tables():
            ways = Ways(table)
            for many in manys_for(table):
                told = best_table(ways, many)
                self.assert_list_of_things(told, ways)
                size = min(many, len(table))
                lists = [list(each) for each in itertools.combinations(range(len(table)), size)]
                least = min(reckoned_reach(table, each) for each in lists)
                self.assertEqual(told, min(each for each in lists if reckoned_reach(table, each) == least))

    def test_no_many(self):
        for table in all_tables():
            self.assert_no_many(lambda many: best_table(Ways(table), many))


class ListsTest(TableTest):
    def answers(self, ways):
        last = ways.count - 1
        return [
            (ways.count, ways.rows),
            table_reach(ways, [0, last]),
            [farthest_first(ways, many, last) for many in (1, 2, BIG)],
            [within_twice(ways, many) for many in (1, 2, BIG)],
            [best_table(ways, many) for many in (1, 2, BIG)],
        ]

    def test_a_table_handed_in_stays_as_it_was(self):
        wrong = [[], [[0, 1], [2, 0]], [[0, 1], [1]], [[0, 1, 3], [1, 0, 1], [3, 1, 0]]]
        for table in all_tables() + wrong:
            kept = copy.deepcopy(table)
            try:
                Ways(table)
            except (NoTable, NoWay):
                pass
            self.assertEqual(table, kept)

    def test_posts_handed_in_stay_as_they_were(self):
        ways = Ways(line_table([0, 10, 4]))
        for posts in ([2, 0, 2], [1, 7], []):
            kept = list(posts)
            try:
                table_reach(ways, posts)
            except (NoPost, NoPosts):
                pass
            self.assertEqual(posts, kept)

    def test_a_table_changed_behind_changes_nothing(self):
        for table in all_tables():
            table = copy.deepcopy(table)
            ways = Ways(table)
            kept = copy.deepcopy(self.answers(ways))
            for row in table:
                row[0] += 5
                row.append(-1)
            table.pop()
            table.extend([[9], [], [1, 2]])
            self.assertEqual(self.answers(ways), kept)
            table.clear()
            self.assertEqual(self.answers(ways), kept)

    def test_one_row_that_stands_in_a_table_twice(self):
        row = [0, 0]
        ways = Ways([row, row])
        row[1] = 7
        self.assertEqual(ways.rows, ((0, 0), (0, 0)))

    def test_told_lists_are_the_askers_own(self):
        for table in all_tables():
            ways = Ways(table)
            for many in (1, 2, len(table), BIG):
                self.assert_asker_owns(lambda: farthest_first(ways, many, 0))
                self.assert_asker_owns(lambda: within_twice(ways, many))
                self.assert_asker_owns(lambda: best_table(ways, many))

    def test_what_is_refused_changes_nothing(self):
        ways = Ways(line_table([0, 10, 4, 30]))
        kept = self.answers(ways)
        self.assert_refused(NoPost, {"number": 1}, lambda: table_reach(ways, [0, 4]))
        self.assert_refused(NoThing, {"thing": 4}, lambda: farthest_first(ways, 1, 4))
        self.assert_refused(NoMany, {}, lambda: within_twice(ways, 0))
        self.assert_refused(NoMany, {}, lambda: best_table(ways, 0))
        self.assertEqual(self.answers(ways), kept)

    def test_two_ways_have_nothing_to_do_with_one_another(self):
        tables = all_tables()
        alone = [self.answers(Ways(table)) for table in tables]
        together = [Ways(table) for table in tables]
        self.assertEqual([self.answers(ways) for ways in together], alone)
        self.assertEqual([self.answers(ways) for ways in reversed(together)], alone[::-1])


if __name__ == "__main__":
    unittest.main()
