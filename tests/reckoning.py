"""What several tests reckon with: another way to the same answers, and folk to ask of."""

import random
import unittest
from fractions import Fraction

from nearposts.errors import NoFolk, NoMany, PostError

BIG = 10 ** 40 - 1
BAD_WEIGHTS = (0, -1, -BIG)
LITTLE = Fraction(1, 10 ** 45)


def pair(value):
    value = Fraction(value)
    return (value.numerator, value.denominator)


def reckoned_reach(folk, posts):
    ways = [min(weight * abs(place - Fraction(*post)) for post in posts) for place, weight in folk]
    return max(ways, default=Fraction(0))


def reckoned_meeting(folk, one, other):
    gap = abs(folk[one][0] - folk[other][0])
    return Fraction(folk[one][1] * folk[other][1] * gap, folk[one][1] + folk[other][1])


def some_folk(chance, count, places, weights):
    return [(chance.randint(-places, places), chance.randint(1, weights)) for at in range(count)]


def some_posts(chance, count, places):
    return [pair(Fraction(chance.randint(-places, places), chance.randint(1, 9))) for at in range(count)]


def many_folk():
    chance = random.Random(5)
    told = [[], [(0, 1)], [(-7, 3)], [(4, 2), (4, 2)], [(4, 2), (4, 9), (4, 2)]]
    for count in range(2, 9):
        told.append(some_folk(chance, count, 6, 4))
        told.append(some_folk(chance, count, 50, 9))
    told.append(some_folk(chance, 40, 30, 5))
    told.append(some_folk(chance, 40, BIG, BIG))
    told.append([(BIG, BIG), (-BIG, BIG), (-BIG, 1), (BIG, BIG), (0, BIG)])
    return told


def lots(things, many):
    """Each parting of the things in at most so many lots, none of them empty."""
    if not things:
        yield []
        return
    for parted in lots(things[1:], many):
        for at in range(len(parted)):
            yield parted[:at] + [[things[0]] + parted[at]] + parted[at + 1:]
        if len(parted) < many:
            yield [[things[0]]] + parted


def all_lists(told):
    """Every list within what is told, itself too."""
    found = [told] if isinstance(told, list) else []
    if isinstance(told, (list, tuple)):
        for each in told:
            found.extend(all_lists(each))
    return found


class ReckoningTest(unittest.TestCase):
    def assert_fraction(self, told):
        self.assertIs(type(told), tuple)
        self.assertEqual([type(each) for each in told], [int, int])
        self.assertGreaterEqual(told[1], 1)
        self.assertEqual(told, pair(Fraction(*told)))

    def assert_rising(self, values):
        for one, other in zip(values, values[1:]):
            self.assertLess(one, other)

    def assert_refused(self, kind, fields, call):
        with self.assertRaises(PostError) as caught:
            call()
        self.assertIs(type(caught.exception), kind)
        self.assertEqual(vars(caught.exception), fields)

    def assert_no_folk(self, number, call):
        with self.assertRaises(NoFolk) as caught:
            call()
        self.assertEqual(caught.exception.number, number)

    def assert_no_many(self, call):
        for bad in (0, -1, -BIG):
            with self.assertRaises(NoMany):
                call(bad)

    def assert_asker_owns(self, call):
        """What is told is changed all the way down, and the same asked once more is told the same."""
        told = call()
        kept = repr(told)
        found = all_lists(told)
        self.assertEqual(len({id(each) for each in found}), len(found))
        for each in found:
            each.clear()
            each.append("changed")
        again = call()
        self.assertEqual(repr(again), kept)
        for each in all_lists(again):
            self.assertNotIn(id(each), [id(other) for other in found])


class LineTest(ReckoningTest):
    def assert_first_bad_weight_is_told(self, call):
        for bad in BAD_WEIGHTS:
            self.assert_no_folk(0, lambda: call([(3, bad)]))
            self.assert_no_folk(1, lambda: call([(3, 1), (3, bad), (4, 2)]))
            self.assert_no_folk(2, lambda: call([(3, 1), (3, 1), (-4, bad), (5, 0), (6, -2)]))
