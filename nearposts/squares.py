"""Folk and posts on a plane that is gone over by squares."""

from nearposts.common import check_many, check_posts, reach_by
from nearposts.errors import NoMany
from nearposts.fractions import fraction_of, greatest_of


def check_one_or_two(many):
    check_many(many)
    if many > 2:
        raise NoMany()


def way_along(number, fraction):
    return fraction_of(abs(number * fraction[1] - fraction[0]), fraction[1])


def way_across(one, post):
    return greatest_of([way_along(one[0], post[0]), way_along(one[1], post[1])])


def square_reach(folk, posts):
    check_posts(folk, posts)
    return reach_by(way_across, folk, posts)


def side_between(one, other):
    return max(abs(one[0] - other[0]), abs(one[1] - other[1]))


def opposite_corners(folk):
    left = min([one[0] for one in folk])
    right = max([one[0] for one in folk])
    low = min([one[1] for one in folk])
    high = max([one[1] for one in folk])
    return [((left, low), (right, high)), ((left, high), (right, low))]


def side_of_two(folk, corners):
    return max([min(side_between(one, corners[0]), side_between(one, corners[1])) for one in folk])


# Of two squares that hold all folk, each side of the least box around the folk is met by
# one. Moved within the box as far as that lets them, they lie in two opposite corners and
# hold what they held of the folk.
def best_corners(folk):
    return min(opposite_corners(folk), key=lambda corners: side_of_two(folk, corners))


def least_side(folk, many):
    if len(folk) == 0:
        return 0
    corners = best_corners(folk)
    if many == 1:
        return side_between(corners[0], corners[1])
    return side_of_two(folk, corners)


def square_least(folk, many):
    check_one_or_two(many)
    return fraction_of(least_side(folk, many), 2)


def twice_the_middle(start, end, side):
    if start <= end:
        return 2 * start + side
    return 2 * start - side


# A middle may be a half: places are kept twice as great until they are told.
def twice_the_post(corner, opposite, side):
    return (twice_the_middle(corner[0], opposite[0], side), twice_the_middle(corner[1], opposite[1], side))


def square_posts(folk, many):
    check_one_or_two(many)
    if len(folk) == 0:
        return []
    corners = best_corners(folk)
    side = least_side(folk, many)
    posts = [twice_the_post(corners[0], corners[1], side)]
    if many == 2:
        posts.append(twice_the_post(corners[1], corners[0], side))
    return [(fraction_of(x, 2), fraction_of(y, 2)) for x, y in sorted(set(posts))]
