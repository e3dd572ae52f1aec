"""Tables of how far each thing is from each, and posts among the things."""

from nearposts.common import check_many, check_posts, is_number_of
from nearposts.errors import NoPost, NoTable, NoThing, NoWay


def check_counts(rows):
    if len(rows) == 0:
        raise NoTable(0)
    for number, row in enumerate(rows):
        if len(row) != len(rows):
            raise NoTable(number)


def is_row_right(rows, number):
    if rows[number][number] != 0:
        return False
    for place, way in enumerate(rows[number]):
        if way < 0 or way != rows[place][number]:
            return False
    return True


def check_numbers(rows):
    for number in range(len(rows)):
        if not is_row_right(rows, number):
            raise NoTable(number)


def check_ways_round(rows):
    for i, row in enumerate(rows):
        for j, way in enumerate(row):
            for k, rest in enumerate(rows[j]):
                if row[k] > way + rest:
                    raise NoWay((i, j, k))


class Ways:
    def __init__(self, table):
        rows = tuple([tuple(row) for row in table])
        check_counts(rows)
        check_numbers(rows)
        check_ways_round(rows)
        self.count = len(rows)
        self.rows = rows


def check_table_posts(ways, posts):
    check_posts(ways.rows, posts)
    for place, post in enumerate(posts):
        if not is_number_of(ways.rows, post):
            raise NoPost(place)


def way_to_posts(row, posts):
    return min([row[post] for post in posts])


def table_reach(ways, posts):
    check_table_posts(ways, posts)
    return max([way_to_posts(row, posts) for row in ways.rows])


def farthest_first(ways, many, first):
    check_many(many)
    if not is_number_of(ways.rows, first):
        raise NoThing(first)
    told = [first]
    nearest = list(ways.rows[first])
    while len(told) < many and max(nearest) > 0:
        thing = nearest.index(max(nearest))
        told.append(thing)
        nearest = [min(old, new) for old, new in zip(nearest, ways.rows[thing])]
    return told


# The next one that would be told is as far as the reach from those told, and each of
# those was at least as far from all ahead of it when it was chosen.
def within_twice(ways, many):
    posts = farthest_first(ways, many, 0)
    reach = table_reach(ways, posts)
    if reach == 0:
        return (posts, reach, None)
    return (posts, reach, sorted(farthest_first(ways, many + 1, 0)))


# Longer lists grow out of shorter ones in their order, so all come in the order of lists.
def rising_lists(count, size):
    lists = [[]]
    for place in range(size):
        longer = []
        for each in lists:
            start = each[-1] + 1 if len(each) > 0 else 0
            longer.extend([each + [thing] for thing in range(start, count)])
        lists = longer
    return lists


# Of several that are as good min tells the first one.
def best_table(ways, many):
    check_many(many)
    lists = rising_lists(ways.count, min(many, ways.count))
    return min(lists, key=lambda posts: table_reach(ways, posts))
