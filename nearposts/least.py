"""The least reach on the line: posts that have it, and folk that show it."""

from nearposts.common import check_many, first_that_holds
from nearposts.fractions import rising_unlike
from nearposts.lines import check_folk, fewest, meeting_of


# Each one's posts within a reach are a stretch of the line, and stretches that meet two
# by two meet all in one place: the least reach of a lot of folk is its greatest meeting.
# So the least reach of all is 0 or a meeting.
def reaches_to_try(folk):
    reaches = [(0, 1)]
    for number, one in enumerate(folk):
        reaches.extend([meeting_of(other, one) for other in folk[:number]])
    return rising_unlike(reaches)


def place_of_least(folk, reaches, many):
    return first_that_holds(lambda reach: len(fewest(folk, reach)[0]) <= many, reaches)


def least_reach(folk, many):
    check_many(many)
    check_folk(folk)
    reaches = reaches_to_try(folk)
    return reaches[place_of_least(folk, reaches, many)]


def best_posts(folk, many):
    return fewest(folk, least_reach(folk, many))[0]


# With the greatest reach below the least one, so many posts don't do: fewest then tells
# more numbers than that, and a meeting above that reach is one of at least the least.
def shown(folk, many):
    check_many(many)
    check_folk(folk)
    reaches = reaches_to_try(folk)
    place = place_of_least(folk, reaches, many)
    if place == 0:
        return None
    return fewest(folk, reaches[place - 1])[1][:many + 1]
