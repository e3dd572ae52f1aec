"""What the line, the ring, the plane and tables have in common."""

from nearposts.errors import NoMany, NoPosts
from nearposts.fractions import greatest_of, least_of


def check_many(many):
    if many < 1:
        raise NoMany()


def check_posts(folk, posts):
    if len(folk) > 0 and len(posts) == 0:
        raise NoPosts()


# Python reads an index below 0 from a list's end, but nothing has such a number.
def is_number_of(things, number):
    return 0 <= number < len(things)


def way_to_nearest(way, one, posts):
    return least_of([way(one, post) for post in posts])


# The way tells of one of the folk and a post how far they are, as a fraction.
def reach_by(way, folk, posts):
    if len(folk) == 0:
        return (0, 1)
    return greatest_of([way_to_nearest(way, one, posts) for one in folk])


# What holds for one of the several must hold for all behind it, and for the last one.
def first_that_holds(holds, several):
    low = 0
    high = len(several) - 1
    while low < high:
        middle = (low + high) // 2
        if holds(several[middle]):
            high = middle
        else:
            low = middle + 1
    return low
