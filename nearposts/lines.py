"""Folk and posts on a line: reaches, meetings, and as few posts as can be."""

from nearposts.common import check_posts, is_number_of, reach_by
from nearposts.errors import NoFolk, NoReach, NoThing
from nearposts.fractions import fraction_of, is_below, places_by_size


def check_folk(folk):
    for number, one in enumerate(folk):
        if one[1] < 1:
            raise NoFolk(number)


def how_far(one, post):
    gap = abs(one[0] * post[1] - post[0])
    return fraction_of(one[1] * gap, post[1])


def reach_of(folk, posts):
    check_folk(folk)
    check_posts(folk, posts)
    return reach_by(how_far, folk, posts)


def meeting_of(one, other):
    gap = abs(one[0] - other[0])
    return fraction_of(one[1] * other[1] * gap, one[1] + other[1])


def meeting(folk, one, other):
    check_folk(folk)
    for number in (one, other):
        if not is_number_of(folk, number):
            raise NoThing(number)
    return meeting_of(folk[one], folk[other])


def highest_post_for(one, reach):
    bottom = reach[1] * one[1]
    return fraction_of(one[0] * bottom + reach[0], bottom)


# Posts that serve one are a stretch of the line, and folk are gone through by where it
# ends. One whom the last post doesn't serve has its whole stretch above that post, so no
# post serves two of apart: fewer posts can't do.
def fewest(folk, reach):
    check_folk(folk)
    if reach[0] < 0:
        raise NoReach()
    ends = [highest_post_for(one, reach) for one in folk]
    posts = []
    apart = []
    for number in places_by_size(ends):
        if len(posts) == 0 or is_below(reach, how_far(folk[number], posts[-1])):
            posts.append(ends[number])
            apart.append(number)
    return (posts, sorted(apart))


def is_rising(numbers):
    for place in range(1, len(numbers)):
        if numbers[place] <= numbers[place - 1]:
            return False
    return True


def are_apart(folk, numbers, reach):
    check_folk(folk)
    for number in numbers:
        if not is_number_of(folk, number):
            return False
    if not is_rising(numbers):
        return False
    for place, number in enumerate(numbers):
        for ahead in numbers[:place]:
            if is_below(meeting_of(folk[ahead], folk[number]), reach):
                return False
    return True
