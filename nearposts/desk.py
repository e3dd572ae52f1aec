"""A desk that keeps fields of folk by names and is told lines."""

from nearposts.errors import NoLine, NoName, NoText, NoWord
from nearposts.least import best_posts, least_reach, shown
from nearposts.lines import check_folk, fewest
from nearposts.texts import folk_text, fraction_text, number_in, reach_in, read_folk

LETTERS = "abcdefghijklmnopqrstuvwxyz"
WORD_COUNTS = {
    "line": 3,
    "put": 4,
    "drop": 2,
    "show": 2,
    "least": 3,
    "posts": 3,
    "apart": 3,
    "fewest": 3,
    "all": 1,
}


# FOLK is read by itself, whatever blanks are in it, so it stays one word here.
def words_of(line):
    if line.startswith("line "):
        return line.split(" ", 2)
    return line.split(" ")


def check_words(words):
    if WORD_COUNTS.get(words[0]) != len(words):
        raise NoLine()
    ahead_of_folk = words[:2] if words[0] == "line" else words
    if "" in ahead_of_folk:
        raise NoLine()


def is_name(word):
    return 1 <= len(word) <= 8 and all([sign in LETTERS for sign in word])


def number_at(words, at):
    number = number_in(words[at])
    if number is None:
        raise NoText(at)
    return number


def reach_at(words, at):
    reach = reach_in(words[at])
    if reach is None:
        raise NoText(at)
    return reach


def posts_text(posts):
    if len(posts) == 0:
        return "none"
    return " ".join([fraction_text(post) for post in posts])


def numbers_text(numbers):
    if numbers is None:
        return "nobody"
    return " ".join([str(number) for number in numbers])


def answer_of_many(word, folk, many):
    if word == "least":
        return fraction_text(least_reach(folk, many))
    if word == "posts":
        return posts_text(best_posts(folk, many))
    return numbers_text(shown(folk, many))


def answer_of_folk(words, folk):
    if words[0] == "show":
        return folk_text(folk)
    if words[0] == "fewest":
        return str(len(fewest(folk, reach_at(words, 2))[0]))
    return answer_of_many(words[0], folk, number_at(words, 2))


class Desk:
    def __init__(self):
        self.fields = {}

    def lay(self, name, folk):
        check_folk(folk)
        self.fields[name] = folk

    def tell_line(self, name, text):
        if not is_name(name):
            raise NoWord()
        self.lay(name, read_folk(text))
        return name

    def tell_put(self, words):
        one = (number_at(words, 2), number_at(words, 3))
        folk = self.fields[words[1]] + [one]
        self.lay(words[1], folk)
        return str(len(folk))

    def tell_drop(self, name):
        self.fields.pop(name)
        return name

    def tell(self, line):
        words = words_of(line)
        check_words(words)
        if words[0] == "all":
            return " ".join(sorted(self.fields))
        if words[0] == "line":
            return self.tell_line(words[1], words[2])
        if words[1] not in self.fields:
            raise NoName(words[1])
        if words[0] == "put":
            return self.tell_put(words)
        if words[0] == "drop":
            return self.tell_drop(words[1])
        return answer_of_folk(words, self.fields[words[1]])
