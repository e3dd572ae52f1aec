import random
import re
import unittest
from fractions import Fraction

from nearposts.desk import Desk
from nearposts.errors import NoFolk, NoLine, NoMany, NoName, NoText, NoWord, PostError
from nearposts.least import best_posts, least_reach, shown
from nearposts.lines import are_apart, fewest, reach_of
from nearposts.texts import folk_text, fraction_text, read_folk
from reckoning import BIG, ReckoningTest, many_folk, pair, some_folk

NUMBER = re.compile(r"0|-?[1-9][0-9]*")
REACH = re.compile(r"(0|[1-9][0-9]*)(?:/([1-9][0-9]*))?")
ONE = re.compile(r"(0|-?[1-9][0-9]*)\*(0|-?[1-9][0-9]*)")
COUNTS = {"put": 4, "drop": 2, "show": 2, "least": 3, "posts": 3, "apart": 3, "fewest": 3, "all": 1}


def as_written(fraction):
    return str(Fraction(*fraction))


def is_reach(word):
    match = REACH.fullmatch(word)
    return bool(match) and str(Fraction(int(match[1]), int(match[2] or 1))) == word


class Reckoned:
    """Point 23 and point 24 in their order: a desk that tells its refusals as tuples."""

    def __init__(self):
        self.fields = {}

    def tell(self, line):
        words = line.split(" ")
        word = words[0]
        if word == "line":
            return (NoLine, {}) if len(words) < 3 or not words[1] else self.tell_line(words[1], words[2:])
        if len(words) != COUNTS.get(word) or not all(words):
            return (NoLine, {})
        if word == "all":
            return " ".join(sorted(self.fields))
        if words[1] not in self.fields:
            return (NoName, {"name": words[1]})
        for at in range(2, len(words)):
            if not (is_reach(words[at]) if word == "fewest" else NUMBER.fullmatch(words[at])):
                return (NoText, {"at": at})
        return getattr(self, f"tell_{word}")(words[1], *words[2:])

    def tell_line(self, name, words):
        if not re.fullmatch("[a-z]{1,8}", name):
            return (NoWord, {})
        matches = [] if words == ["nobody"] else [ONE.fullmatch(word) for word in words]
        if None in matches:
            return (NoText, {"at": matches.index(None)})
        folk = [(int(match[1]), int(match[2])) for match in matches]
        for number, one in enumerate(folk):
            if one[1] < 1:
                return (NoFolk, {"number": number})
        self.fields[name] = folk
        return name

    def tell_put(self, name, place, weight):
        folk = self.fields[name]
        if int(weight) < 1:
            return (NoFolk, {"number": len(folk)})
        folk.append((int(place), int(weight)))
        return str(len(folk))

    def tell_drop(self, name):
        del self.fields[name]
        return name

    def tell_show(self, name):
        return " ".join("%d*%d" % one for one in self.fields[name]) or "nobody"

    def tell_least(self, name, many):
        if int(many) < 1:
            return (NoMany, {})
        return as_written(least_reach(self.fields[name], int(many)))

    def tell_posts(self, name, many):
        if int(many) < 1:
            return (NoMany, {})
        return " ".join(map(as_written, best_posts(self.fields[name], int(many)))) or "none"

    def tell_apart(self, name, many):
        if int(many) < 1:
            return (NoMany, {})
        told = shown(self.fields[name], int(many))
        return "nobody" if told is None else " ".join(map(str, told))

    def tell_fewest(self, name, reach):
        return str(len(fewest(self.fields[name], pair(Fraction(reach)))[0]))


class DeskTest(ReckoningTest):
    def seen(self, desk):
        names = desk.tell("all").split()
        return [names] + [desk.tell(f"show {name}") for name in names]

    def assert_told(self, desk, line, answer):
        told = desk.tell(line)
        self.assertIs(type(told), str)
        self.assertEqual(told, answer, line)

    def assert_no(self, desk, kind, fields, line):
        kept = self.seen(desk)
        with self.subTest(line):
            self.assert_refused(kind, fields, lambda: desk.tell(line))
        self.assertEqual(self.seen(desk), kept)

    def some_desk(self):
        desk = Desk()
        for line in ("line mill 0*1 10*1 4*3", "line a nobody", "line put 5*2", "line eightabc 1*1 1*1"):
            desk.tell(line)
        return desk


class LinesTest(DeskTest):
    def test_line(self):
        desk = Desk()
        self.assert_told(desk, "line mill 3*1 -4*12 0*2", "mill")
        self.assert_told(desk, "show mill", "3*1 -4*12 0*2")
        self.assert_told(desk, "line a nobody", "a")
        self.assert_told(desk, "show a", "nobody")
        self.assert_told(desk, "all", "a mill")

    def test_a_field_in_the_stead_of_one(self):
        desk = self.some_desk()
        self.assert_told(desk, "line mill 7*7", "mill")
        self.assert_told(desk, "show mill", "7*7")
        self.assert_told(desk, "put mill 8 8", "2")
        self.assert_told(desk, "line mill nobody", "mill")
        self.assert_told(desk, "show mill", "nobody")
        self.assert_told(desk, "put mill 8 8", "1")
        self.assert_told(desk, "all", "a eightabc mill put")

    def test_put(self):
        desk = self.some_desk()
        self.assert_told(desk, "put mill -7 2", "4")
        self.assert_told(desk, "put mill 0 1", "5")
        self.assert_told(desk, "show mill", "0*1 10*1 4*3 -7*2 0*1")
        self.assert_told(desk, "put a 0 10", "1")
        self.assert_told(desk, "show a", "0*10")
        self.assert_told(desk, f"put a {-BIG} {BIG}", "2")
        self.assert_told(desk, "show a", f"0*10 {-BIG}*{BIG}")

    def test_drop(self):
        desk = self.some_desk()
        self.assert_told(desk, "drop mill", "mill")
        self.assert_told(desk, "all", "a eightabc put")
        self.assert_no(desk, NoName, {"name": "mill"}, "drop mill")
        self.assert_no(desk, NoName, {"name": "mill"}, "show mill")
        self.assert_told(desk, "line mill 1*1", "mill")
        self.assert_told(desk, "show mill", "1*1")

    def test_all(self):
        desk = Desk()
        self.assert_told(desk, "all", "")
        for name, told in (("m", "m"), ("b", "b m"), ("z", "b m z"), ("mm", "b m mm z"), ("m", "b m mm z")):
            desk.tell(f"line {name} 1*1")
            self.assert_told(desk, "all", told)
        for name in ("b", "z", "m", "mm"):
            desk.tell(f"drop {name}")
        self.assert_told(desk, "all", "")

    def test_least_posts_and_apart(self):
        desk = self.some_desk()
        for many, least in (("1", "5"), ("2", "3"), ("3", "0"), (str(BIG), "0")):
            self.assert_told(desk, f"least mill {many}", least)
        desk.tell("line half 0*1 1*1")
        self.assert_told(desk, "least half 1", "1/2")
        self.assert_told(desk, "posts half 1", "1/2")
        self.assert_told(desk, "posts half 2", "0 1")
        self.assert_told(desk, "apart half 1", "0 1")
        self.assert_told(desk, "apart mill 2", "0 1 2")
        self.assert_told(desk, "posts put 1", "5")

    def test_nobody(self):
        desk = self.some_desk()
        for many in (1, 2, BIG):
            self.assert_told(desk, f"least a {many}", "0")
            self.assert_told(desk, f"posts a {many}", "none")
            self.assert_told(desk, f"apart a {many}", "nobody")
        for reach in ("0", "1/2", "7"):
            self.assert_told(desk, f"fewest a {reach}", "0")

    def test_apart_of_a_least_reach_of_nought(self):
        desk = self.some_desk()
        for line in ("apart put 1", "apart eightabc 1", "apart mill 3", f"apart mill {BIG}"):
            self.assert_told(desk, line, "nobody")

    def test_fewest(self):
        desk = self.some_desk()
        for reach, told in (("0", 3), ("2", 3), ("299/100", 3), ("3", 2), ("9/2", 2), ("5", 1), (str(BIG), 1)):
            self.assert_told(desk, f"fewest mill {reach}", str(told))
        desk.tell("line half 0*1 1*1")
        self.assert_told(desk, "fewest half 1/2", "1")
        self.assert_told(desk, f"fewest half {BIG // 2}/{BIG}", "2")
        self.assert_told(desk, f"fewest half {BIG // 2 + 1}/{BIG}", "1")

    def test_answers_are_those_of_the_functions(self):
        for folk in many_folk():
            desk = Desk()
            desk.tell("line x nobody")
            for number, one in enumerate(folk):
                self.assert_told(desk, f"put x {one[0]} {one[1]}", str(number + 1))
            self.assert_told(desk, "show x", folk_text(folk))
            for many in (1, 2, 3, 4, BIG):
                least = least_reach(folk, many)
                self.assert_told(desk, f"least x {many}", fraction_text(least))
                posts = [pair(Fraction(word)) for word in desk.tell(f"posts x {many}").split() if word != "none"]
                self.assertEqual(posts, best_posts(folk, many))
                self.assertEqual(desk.tell(f"posts x {many}") == "none", folk == [])
                apart = desk.tell(f"apart x {many}")
                self.assertEqual(apart == "nobody", least == (0, 1))
                if apart != "nobody":
                    self.assertEqual([int(word) for word in apart.split(" ")], shown(folk, many))
                self.assert_told(desk, f"fewest x {fraction_text(least)}", str(len(fewest(folk, least)[0])))

    def test_names(self):
        desk = Desk()
        names = ["a", "z", "abcdefgh", "stuvwxyz", "abcdefg", "ab", "nobody", "none"] + list(COUNTS) + ["line"]
        for at, name in enumerate(names):
            self.assert_told(desk, f"line {name} {at}*1", name)
        self.assert_told(desk, "all", " ".join(sorted(names)))
        for at, name in enumerate(names):
            self.assert_told(desk, f"show {name}", f"{at}*1")
        self.assert_told(desk, "drop ab", "ab")
        self.assert_told(desk, "show abcdefg", "4*1")
        self.assert_told(desk, "show a", "0*1")
        self.assert_told(desk, "put abcdefg 9 9", "2")
        self.assert_told(desk, "show abcdefgh", "2*1")

    def test_four_hundred_signs(self):
        desk = Desk()
        text = " ".join(["1*1"] * 98)
        line = f"line abc {text}"
        self.assertEqual(len(line), 400)
        self.assert_told(desk, line, "abc")
        self.assert_told(desk, "show abc", text)

    def test_two_hundred_folk(self):
        chance = random.Random(71)
        for places, weights in ((500, 9), (BIG, BIG)):
            desk = Desk()
            desk.tell("line x nobody")
            folk = some_folk(chance, 200, places, weights)
            for number, one in enumerate(folk):
                self.assert_told(desk, f"put x {one[0]} {one[1]}", str(number + 1))
            self.assertEqual(read_folk(desk.tell("show x")), folk)
            for many in (1, 7, 199):
                least = pair(Fraction(desk.tell(f"least x {many}")))
                posts = [pair(Fraction(word)) for word in desk.tell(f"posts x {many}").split(" ")]
                self.assertLessEqual(len(posts), many)
                self.assertEqual(reach_of(folk, posts), least)
                apart = desk.tell(f"apart x {many}")
                if least == (0, 1):
                    self.assertEqual(apart, "nobody")
                else:
                    numbers = [int(word) for word in apart.split(" ")]
                    self.assertEqual(len(numbers), many + 1)
                    self.assertIs(are_apart(folk, numbers, least), True)
                self.assertLessEqual(int(desk.tell(f"fewest x {fraction_text(least)}")), many)


class RefusalsTest(DeskTest):
    def test_no_such_word(self):
        desk = self.some_desk()
        for line in ("", "mill", "Line mill 3*1", "lines mill 3*1", "lin mill 3*1", "linemill 3*1", "al"):
            self.assert_no(desk, NoLine, {}, line)
        for line in ("reach mill 1", "shows mill", "ALL", "alls", "nobody", "3*1", "0", "~", "all\tmill", "show,mill"):
            self.assert_no(desk, NoLine, {}, line)

    def test_too_few_and_too_many_words(self):
        desk = self.some_desk()
        for line in ("line", "line mill", "line MILL", "put", "put mill", "put mill 1", "put mill 1 1 1", "drop"):
            self.assert_no(desk, NoLine, {}, line)
        for line in ("drop mill mill", "show", "show mill 1", "least", "least mill", "least mill 1 1", "posts mill"):
            self.assert_no(desk, NoLine, {}, line)
        for line in ("posts mill 1 1", "apart mill", "apart mill 1 1", "fewest mill", "fewest mill 1 1", "all mill"):
            self.assert_no(desk, NoLine, {}, line)

    def test_words_without_signs(self):
        desk = self.some_desk()
        for line in (" ", "  ", " all", "all ", " show mill", "show mill ", "show  mill", "show "):
            self.assert_no(desk, NoLine, {}, line)
        for line in ("drop ", "drop mill ", "put mill 1 ", "put  1 1", " put mill 1", "put mill 1 1 ", "put mill  1"):
            self.assert_no(desk, NoLine, {}, line)
        for line in ("least mill ", "least  1", "least  mill 1", "least mill 1 ", "fewest mill ", "fewest mill  1/2"):
            self.assert_no(desk, NoLine, {}, line)
        for line in ("line ", "line  ", "line   ", "line  3*1", "line  mill 3*1", " line mill 3*1", "line  mill"):
            self.assert_no(desk, NoLine, {}, line)

    def test_no_line_is_ahead_of_all_others(self):
        desk = self.some_desk()
        for line in ("show nowhere ", "put nowhere x", "put mill x 0 0", "least nowhere 0 0", "least mill  0"):
            self.assert_no(desk, NoLine, {}, line)

    def test_blanks_within_folk_are_no_text(self):
        desk = self.some_desk()
        for text, at in (("", 0), (" ", 0), (" 3*1", 0), ("3*1 ", 1), ("3*1  4*1", 1), ("nobody ", 0), (" nobody", 0)):
            self.assert_no(desk, NoText, {"at": at}, f"line mill {text}")

    def test_no_word(self):
        desk = self.some_desk()
        for name in ("abcdefghi", "abcdefghijklmnop", "Mill", "MILL", "milL", "mill1", "1", "mi_ll", "mi-ll", "mill,"):
            self.assert_no(desk, NoWord, {}, f"line {name} 3*1")
        for name in ("~", "`", "{", "@", "[", "3*1", "mil\u00e9"):
            self.assert_no(desk, NoWord, {}, f"line {name} 3*1")

    def test_no_word_is_ahead_of_no_text_and_no_folk(self):
        desk = self.some_desk()
        for text in ("", "x", "3*0", "3*1  4*1", "nobody nobody"):
            self.assert_no(desk, NoWord, {}, f"line MILL {text}")

    def test_no_name(self):
        desk = self.some_desk()
        for name in ("nowhere", "mil", "mills", "Mill", "MILL", "abcdefghi", "1", "b", "all", "line", "3*1", "~"):
            for line in ("put {} 1 1", "drop {}", "show {}", "least {} 1", "posts {} 1", "apart {} 1", "fewest {} 1"):
                self.assert_no(desk, NoName, {"name": name}, line.format(name))

    def test_no_name_is_ahead_of_no_text_no_many_and_no_folk(self):
        desk = self.some_desk()
        for line in ("put b x 1", "put b 1 x", "put b 1 0", "least b x", "least b 0", "posts b 0", "apart b -1"):
            self.assert_no(desk, NoName, {"name": "b"}, line)
        for line in ("fewest b x", "fewest b -1", "fewest b 2/4"):
            self.assert_no(desk, NoName, {"name": "b"}, line)

    def test_no_text_within_folk(self):
        desk = self.some_desk()
        texts = (("x", 0), ("3*1 x", 1), ("3*1 4*1 nobody", 2), ("nobody 3*1", 0), ("03*1", 0), ("3*1 -0*1", 1))
        for name in ("mill", "new"):
            for text, at in texts:
                self.assert_no(desk, NoText, {"at": at}, f"line {name} {text}")

    def test_no_text_is_ahead_of_no_folk_within_folk(self):
        desk = self.some_desk()
        self.assert_no(desk, NoText, {"at": 1}, "line mill 3*0 x")
        self.assert_no(desk, NoText, {"at": 2}, "line mill 3*0 4*-1 4*-0")

    def test_words_that_are_no_numbers(self):
        desk = self.some_desk()
        for bad in ("x", "+1", "01", "-0", "00", "1/2", "1.0", "1*1", "-", "--1", "1-", "0x1", "1_0", "nobody", "-01"):
            self.assert_no(desk, NoText, {"at": 2}, f"put mill {bad} 1")
            self.assert_no(desk, NoText, {"at": 3}, f"put mill 1 {bad}")
            self.assert_no(desk, NoText, {"at": 2}, f"put mill {bad} {bad}")
            self.assert_no(desk, NoText, {"at": 2}, f"put mill {bad} 0")
            for word in ("least", "posts", "apart"):
                self.assert_no(desk, NoText, {"at": 2}, f"{word} mill {bad}")

    def test_words_that_are_no_reach(self):
        desk = self.some_desk()
        for bad in ("2/4", "4/2", "0/2", "0/1", "-1", "-1/2", "1/1", "7/1", "1/0", "0/0", "1/-2", "1/2/3", "1/", "/2"):
            self.assert_no(desk, NoText, {"at": 2}, f"fewest mill {bad}")
        for bad in ("/", "x", "01/2", "1/02", "+1", "-0", "-0/2", "1.5", "1*2", f"{2 * BIG}/{2 * BIG - 2}", f"-{BIG}"):
            self.assert_no(desk, NoText, {"at": 2}, f"fewest mill {bad}")

    def test_no_many(self):
        desk = self.some_desk()
        for name in ("mill", "a", "put"):
            for word in ("least", "posts", "apart"):
                for many in (0, -1, -BIG):
                    self.assert_no(desk, NoMany, {}, f"{word} {name} {many}")

    def test_no_folk_for_line(self):
        desk = self.some_desk()
        for name in ("mill", "new"):
            for weight in (0, -1, -BIG):
                self.assert_no(desk, NoFolk, {"number": 0}, f"line {name} 3*{weight}")
                self.assert_no(desk, NoFolk, {"number": 1}, f"line {name} 3*1 3*{weight} 4*0")

    def test_no_folk_for_put(self):
        desk = self.some_desk()
        for name, number in (("mill", 3), ("a", 0), ("put", 1), ("eightabc", 2)):
            for weight in (0, -1, -BIG):
                self.assert_no(desk, NoFolk, {"number": number}, f"put {name} 3 {weight}")
        self.assert_told(desk, "put mill 3 1", "4")
        self.assert_no(desk, NoFolk, {"number": 4}, "put mill 3 0")


class SessionsTest(DeskTest):
    words = ["line", "put", "drop", "show", "least", "posts", "apart", "fewest", "all", "what", ""]
    names = ["a", "b", "ab", "all", "abcdefgh", "abcdefghi", "A", ""]
    numbers = ["0", "1", "2", "3", "-1", "17", "1/2", "5/3", "2/4", "x", "-0", "", str(BIG)]
    folk = ["nobody", "0*1", "3*1", "-4*12", "7*2 9*1 9*1", "3*0", "x", "0*1 ", "", " 5*1", f"{BIG}*{BIG}"]

    def some_line(self, chance):
        word = chance.choice(self.words)
        name = chance.choice(self.names[:4] if chance.randrange(4) else self.names)
        if word == "line":
            words = [word, name] + chance.choices(self.folk, k=chance.choice((1, 1, 1, 2)))
        else:
            words = [word, name] + chance.choices(self.numbers, k=2)
            words = words[:COUNTS.get(word, 3)]
        if not chance.randrange(20):
            words.insert(chance.randrange(len(words) + 1), chance.choice(self.numbers))
        if not chance.randrange(20):
            words.pop()
        return " ".join(words)

    def heard(self, desk, line):
        try:
            return desk.tell(line)
        except PostError as error:
            return (type(error), vars(error))

    def test_sessions_as_reckoned(self):
        chance = random.Random(72)
        kinds = set()
        for at in range(60):
            desk, reckoned = Desk(), Reckoned()
            for step in range(100):
                line = self.some_line(chance)
                told = self.heard(desk, line)
                self.assertEqual(told, reckoned.tell(line), line)
                kinds.add(told[0] if isinstance(told, tuple) else line.split(" ")[0])
                self.assertEqual(desk.tell("all"), reckoned.tell("all"))
            for name in reckoned.fields:
                self.assertEqual(desk.tell(f"show {name}"), reckoned.tell_show(name))
        self.assertEqual(len(kinds), 9 + 6)

    def test_two_desks_by_turns(self):
        chance = random.Random(73)
        lines = [[self.some_line(chance) for step in range(200)] for at in range(2)]
        alone = []
        for each in lines:
            desk = Desk()
            alone.append([self.heard(desk, line) for line in each])
        turns = [Desk(), Desk()]
        for step in range(200):
            for at in range(2):
                self.assertEqual(self.heard(turns[at], lines[at][step]), alone[at][step])

    def test_a_new_desk_is_empty(self):
        self.some_desk()
        self.assert_told(Desk(), "all", "")

    def test_asking_changes_nothing(self):
        desk = self.some_desk()
        kept = self.seen(desk)
        asked = [f"{word} {name} {many}" for word in ("least", "posts", "apart") for name in kept[0] for many in (1, 2)]
        asked += [f"fewest {name} {reach}" for name in kept[0] for reach in ("0", "1/2", "4")]
        first = [desk.tell(line) for line in asked]
        self.assertEqual([desk.tell(line) for line in reversed(asked)], first[::-1])
        self.assertEqual(self.seen(desk), kept)


if __name__ == "__main__":
    unittest.main()
