"""Folk and posts on a line: reaches, meetings, and as few posts as can be."""

from nearposts.common import check_posts, reach_by
from nearposts.errors import NoFolk, NoReach, NoThing
from nearposts.fractions import fraction_of, is_below


def check_folk(folk):
    for number, one in enumerate(folk):
        if one[1] < 1:
            raise NoFolk(number)


# Python reads an index below 0 from the list's end, but no one has such a number.
def is_number_of(folk, number):
    return 0 <= number < len(folk)


def how_far(one, post):
    gap = abs(one[0] * post[1] - post[0])
    return fraction_of(one[1] * gap, post[1])


def reach_of(folk, posts):
    check_folk(folk)
    check_posts(folk, posts)
    return reach_by(how_far, folk, posts)


def meeting_of(one, other):
    gap = abs(one[0] - other[0])
    return fraction_of(one[1] * other[1] * gap, one[1] + other[1])


def meeting(folk, one, other):
    check_folk(folk)
    for number in (one, other):
        if not is_number_of(folk, number):
            raise NoThing(number)
    return meeting_of(folk[one], folk[other])


def highest_post_for(one, reach):
    bottom = reach[1] * one[1]
    return fraction_of(one[0] * bottom + reach[0], bottom)


def first_to_end(folk, numbers, reach):
    first = numbers[0]
    for number in numbers:
        if is_below(highest_post_for(folk[number], reach), highest_post_for(folk[first], reach)):
            first = number
    return first


# The one whose highest post is the lowest must be served by it or below it, and no
# post below it serves others of the waiting besides. All posts that serve those still
# waiting then lie above it, so no post serves two of apart: fewer posts can't do.
def fewest(folk, reach):
    check_folk(folk)
    if reach[0] < 0:
        raise NoReach()
    posts = []
    apart = []
    waiting = list(range(len(folk)))
    while len(waiting) > 0:
        number = first_to_end(folk, waiting, reach)
        post = highest_post_for(folk[number], reach)
        posts.append(post)
        apart.append(number)
        waiting = [each for each in waiting if is_below(reach, how_far(folk[each], post))]
    return (posts, sorted(apart))


def is_rising(numbers):
    for place in range(1, len(numbers)):
        if numbers[place] <= numbers[place - 1]:
            return False
    return True


def are_apart(folk, numbers, reach):
    check_folk(folk)
    for number in numbers:
        if not is_number_of(folk, number):
            return False
    if not is_rising(numbers):
        return False
    for place, number in enumerate(numbers):
        for ahead in numbers[:place]:
            if is_below(meeting_of(folk[ahead], folk[number]), reach):
                return False
    return True
