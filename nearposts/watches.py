"""Posts that are kept while folk come one by one on the plane."""

from nearposts.common import check_many
from nearposts.squares import side_between


class Watch:
    def __init__(self, many):
        check_many(many)
        self.many = many
        self.places = []
        self.chosen = []
        self.last_mark = 0
        self.last_bar = None

    def way_between(self, one, other):
        return side_between(self.places[one], self.places[other])

    def is_far(self, number, others):
        return all([self.way_between(number, other) > 2 * self.last_mark for other in others])

    def least_way(self):
        ways = []
        for place, number in enumerate(self.chosen):
            ways.extend([self.way_between(number, other) for other in self.chosen[:place]])
        return min(ways)

    # The two posts that are the least far apart aren't both kept, so the posts get fewer.
    def raise_mark(self):
        self.last_bar = self.chosen
        self.last_mark = self.least_way()
        kept = []
        for number in self.last_bar:
            if self.is_far(number, kept):
                kept.append(number)
        self.chosen = kept

    def come(self, x, y):
        number = len(self.places)
        self.places.append((x, y))
        if self.is_far(number, self.chosen):
            self.chosen.append(number)
        while len(self.chosen) > self.many:
            self.raise_mark()
        return number

    def folk(self):
        return list(self.places)

    def posts(self):
        return list(self.chosen)

    def mark(self):
        return self.last_mark

    def bar(self):
        return None if self.last_bar is None else list(self.last_bar)

    def way_to_post(self, number):
        return min([self.way_between(number, post) for post in self.chosen])

    def reach(self):
        return max([self.way_to_post(number) for number in range(len(self.places))], default=0)
