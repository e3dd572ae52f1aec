import unittest

from nearposts.common import check_many, check_posts, first_that_holds, is_number_of, reach_by
from nearposts.errors import NoPosts
from reckoning import BIG, ReckoningTest


class CommonTest(ReckoningTest):
    def test_many(self):
        self.assert_no_many(check_many)
        for many in (1, 2, BIG):
            check_many(many)

    def test_posts(self):
        check_posts([], [])
        check_posts([], [(0, 1)])
        check_posts([1], [(0, 1)])
        with self.assertRaises(NoPosts):
            check_posts([1], [])

    def test_numbers_that_things_have(self):
        for things in ([], [7], [7, 7, 7], (1, 2)):
            for number in (-BIG, -2, -1, 0, 1, 2, 3, BIG):
                self.assertIs(is_number_of(things, number), number in range(len(things)))

    def test_reach_by_a_way(self):
        def way(one, post):
            return (abs(one - post), 1)

        self.assertEqual(reach_by(way, [], []), (0, 1))
        self.assertEqual(reach_by(way, [1, 7, 30], [0, 20]), (10, 1))

    def test_the_first_that_holds(self):
        for count in range(1, 40):
            several = [3 * each for each in range(count)]
            for first in range(count):
                asked = []

                def holds(value):
                    asked.append(value)
                    return value >= 3 * first

                self.assertEqual(first_that_holds(holds, several), first)
                self.assertLessEqual(len(asked), 6)


if __name__ == "__main__":
    unittest.main()
