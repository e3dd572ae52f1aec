"""Folk and posts on a ring: reaches, the least reach, and the steps that show it."""

from nearposts.common import check_many, check_posts, first_that_holds, reach_by
from nearposts.errors import NoFolk, NoPost, NoRing
from nearposts.fractions import fraction_of


def check_ring(around, folk):
    if around < 1:
        raise NoRing()
    for number, place in enumerate(folk):
        if place < 0 or place >= around:
            raise NoFolk(number)


def check_ring_posts(around, posts):
    for number, post in enumerate(posts):
        if post[0] < 0 or post[0] >= around * post[1]:
            raise NoPost(number)


def way_round(around, place, post):
    gap = abs(place * post[1] - post[0])
    return fraction_of(min(gap, around * post[1] - gap), post[1])


def ring_reach(around, folk, posts):
    check_ring(around, folk)
    check_posts(folk, posts)
    check_ring_posts(around, posts)
    return reach_by(lambda place, post: way_round(around, place, post), folk, posts)


# The ring is gone round again and again, so one stands at each place plus any rounds.
def first_stand_from(around, places, number):
    rounds = number // around * around
    for place in places:
        if rounds + place >= number:
            return rounds + place
    return rounds + around + places[0]


def arcs_from(around, places, length, first):
    starts = []
    start = first
    while start < first + around:
        starts.append(start)
        start = first_stand_from(around, places, start + length + 1)
    return starts


# Arcs may be moved on until each begins at one of the folk, but which of the folk is the
# best first one can't be seen ahead.
def fewest_arcs(around, places, length):
    return min([arcs_from(around, places, length, first) for first in places], key=len, default=[])


# A post with a reach serves an arc of twice that length. The shortest arc for a lot of
# folk goes from one of them to one of them.
def lengths_to_try(around, places):
    lengths = [0]
    for one in places:
        lengths.extend([(other - one) % around for other in places])
    return sorted(set(lengths))


def least_length(around, places, many):
    lengths = lengths_to_try(around, places)
    place = first_that_holds(lambda length: len(fewest_arcs(around, places, length)) <= many, lengths)
    return lengths[place]


def ring_least(around, folk, many):
    check_many(many)
    check_ring(around, folk)
    return fraction_of(least_length(around, sorted(set(folk)), many), 2)


def ring_posts(around, folk, many):
    check_many(many)
    check_ring(around, folk)
    places = sorted(set(folk))
    length = least_length(around, places, many)
    twice = [(2 * start + length) % (2 * around) for start in fewest_arcs(around, places, length)]
    return [fraction_of(each, 2) for each in sorted(twice)]


def steps_from(around, places, length, first, count):
    steps = [first]
    while len(steps) < count:
        steps.append(first_stand_from(around, places, steps[-1] + length))
    return steps


def ring_shown(around, folk, many):
    check_many(many)
    check_ring(around, folk)
    places = sorted(set(folk))
    length = least_length(around, places, many)
    if length == 0:
        return None
    return [steps_from(around, places, length, first, many + 1) for first in places]


def are_steps(around, places, length, first, row):
    if len(row) < 2 or row[-1] >= first + around:
        return False
    return row == steps_from(around, places, length, first, len(row))


def ring_holds(around, folk, reach, rows):
    check_ring(around, folk)
    if reach[0] <= 0:
        return False
    places = sorted(set(folk))
    if len(rows) != len(places):
        return False
    # Folk stand at whole numbers alone, so a step of at least a fraction is one of at
    # least the next whole number.
    length = -(-2 * reach[0] // reach[1])
    for first, row in zip(places, rows):
        if len(row) != len(rows[0]) or not are_steps(around, places, length, first, row):
            return False
    return True
