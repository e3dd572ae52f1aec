import copy
import itertools
import random
import re
import unittest

from nearposts.errors import NoText
from nearposts.texts import folk_text, fraction_text, reach_in, read_folk
from reckoning import BIG, ReckoningTest, many_folk, some_folk

NUMBER = r"(?:0|-?[1-9][0-9]*)"
ONE = re.compile(NUMBER + r"\*" + NUMBER)

WRONG_WORDS = """
+3*1 3*+1 03*1 3*01 -0*1 3*-0 00*1 3*00 -03*1 3*-01 --3*1 3*--1 3- -3 3 0 * *1 3* -*1 3*- ** 3**1 *3*1 3*1* 3*1*2
a*1 3*a 3a*1 3*1a 0x3*1 3_0*1 3.0*1 3*1.0 3/1 3/1*1 3x1 3,1 (3,1) 1e3*1 nobody Nobody nobody*1 none ~ ! 3*1, 3*1;
""".split()


def texts_that_are_wrong():
    told = [(word, 0) for word in WRONG_WORDS if word != "nobody"]
    for word in WRONG_WORDS:
        told.append((f"{word} 3*1", 0))
        told.append((f"3*1 {word}", 1))
        told.append((f"3*1 -4*12 {word} 0*2 {word}", 2))
    return told


class FolkTextTest(ReckoningTest):
    def test_nobody(self):
        self.assertEqual(folk_text([]), "nobody")

    def test_one_and_several(self):
        self.assertEqual(folk_text([(3, 1)]), "3*1")
        self.assertEqual(folk_text([(3, 1), (-4, 12), (0, 2)]), "3*1 -4*12 0*2")
        self.assertEqual(folk_text([(5, 5), (5, 5)]), "5*5 5*5")

    def test_weights_as_they_stand(self):
        self.assertEqual(folk_text([(0, 0)]), "0*0")
        self.assertEqual(folk_text([(3, -1), (-10, 0), (-1, -BIG)]), f"3*-1 -10*0 -1*-{BIG}")

    def test_forty_figures(self):
        self.assertEqual(folk_text([(BIG, BIG), (-BIG, 1)]), "9" * 40 + "*" + "9" * 40 + " -" + "9" * 40 + "*1")

    def test_folk_handed_in_stay_as_they_were(self):
        for folk in many_folk():
            kept = copy.deepcopy(folk)
            self.assertEqual(folk_text(folk), folk_text(folk))
            self.assertEqual(folk, kept)


class FractionTextTest(ReckoningTest):
    def test_top_alone_where_the_bottom_is_1(self):
        for top in (0, 1, -1, 7, 100, BIG, -BIG, BIG * BIG):
            self.assertEqual(fraction_text((top, 1)), str(top))

    def test_top_and_bottom(self):
        self.assertEqual(fraction_text((1, 2)), "1/2")
        self.assertEqual(fraction_text((-7, 12)), "-7/12")
        self.assertEqual(fraction_text((BIG, BIG - 1)), "9" * 40 + "/" + "9" * 39 + "8")
        self.assertEqual(fraction_text((1, BIG * BIG)), f"1/{BIG * BIG}")


class ReadFolkTest(ReckoningTest):
    def assert_read(self, text, folk):
        told = read_folk(text)
        self.assertIs(type(told), list)
        self.assertEqual({type(one) for one in told} - {tuple}, set())
        self.assertEqual({type(number) for one in told for number in one} - {int}, set())
        self.assertEqual(told, folk)
        self.assertEqual(folk_text(told), text)

    def assert_no_text(self, at, text):
        self.assert_refused(NoText, {"at": at}, lambda: read_folk(text))

    def test_nobody(self):
        self.assert_read("nobody", [])

    def test_one_and_several(self):
        self.assert_read("3*1", [(3, 1)])
        self.assert_read("3*1 -4*12 0*2", [(3, 1), (-4, 12), (0, 2)])
        self.assert_read("5*5 5*5", [(5, 5), (5, 5)])
        self.assert_read("10*100 -10*1000", [(10, 100), (-10, 1000)])

    def test_weights_as_written(self):
        self.assert_read("0*0", [(0, 0)])
        self.assert_read("3*-1 3*0 -7*-10", [(3, -1), (3, 0), (-7, -10)])

    def test_forty_figures(self):
        self.assert_read("9" * 40 + "*" + "9" * 40 + " -" + "9" * 40 + "*1", [(BIG, BIG), (-BIG, 1)])

    def test_what_is_written_is_read_to_the_same_folk(self):
        chance = random.Random(61)
        for folk in many_folk() + [some_folk(chance, 40, 9, 9), [(-BIG, -BIG)] * 4]:
            self.assert_read(folk_text(folk), folk)
            unweighted = [(place, weight - 3) for place, weight in folk]
            self.assert_read(folk_text(unweighted), unweighted)

    def test_four_hundred_signs(self):
        text = " ".join(["1*1"] * 100)
        self.assert_read(text, [(1, 1)] * 100)
        self.assert_no_text(99, text[:-1])

    def test_no_text_at_all_and_blanks(self):
        for text, at in (("", 0), (" ", 0), ("   ", 0), (" 3*1", 0), ("3*1 ", 1), ("3*1  4*1", 1), ("3*1 4*1  ", 2)):
            self.assert_no_text(at, text)
        for text, at in (("  3*1", 0), ("3*1   4*1", 1), ("3 *1", 0), ("3* 1", 0), ("3*1 - 4*1", 1), ("3*1 4* 1 5", 1)):
            self.assert_no_text(at, text)

    def test_nobody_beside_others(self):
        for text, at in (("nobody nobody", 0), ("3*1 nobody", 1), ("nobody 3*1", 0), ("3*1 4*1 nobody 5*1", 2)):
            self.assert_no_text(at, text)
        for text, at in ((" nobody", 0), ("nobody ", 0), ("x nobody", 0), ("NOBODY", 0), ("nobod", 0), ("nobodyy", 0)):
            self.assert_no_text(at, text)

    def test_wrong_words(self):
        for text, at in texts_that_are_wrong():
            self.assert_no_text(at, text)

    def test_all_little_texts(self):
        for count in range(6):
            for signs in itertools.product("0 1-*+", repeat=count):
                text = "".join(signs)
                words = [bool(ONE.fullmatch(word)) for word in text.split(" ")]
                if all(words):
                    self.assert_read(text, [tuple(map(int, word.split("*"))) for word in text.split(" ")])
                else:
                    self.assert_no_text(words.index(False), text)

    def test_each_sign_in_a_word(self):
        for sign in map(chr, range(ord(" "), ord("~") + 1)):
            for text in (f"{sign}3*1", f"3{sign}*1", f"3*{sign}1", f"3*1{sign}", sign, f"3{sign}1"):
                words = [bool(ONE.fullmatch(word)) for word in text.split(" ")]
                if all(words):
                    self.assertEqual(folk_text(read_folk(text)), text)
                else:
                    self.assert_no_text(words.index(False), text)

    def test_told_lists_are_the_askers_own(self):
        for text in ("nobody", "3*1", "3*1 -4*12 3*1"):
            self.assert_asker_owns(lambda: read_folk(text))


class ReachTest(ReckoningTest):
    def test_what_is_read(self):
        for fraction in ((0, 1), (1, 1), (10, 1), (1, 2), (7, 10), (10, 7), (BIG, BIG - 1), (1, BIG), (BIG ** 3, 2)):
            self.assertEqual(reach_in(fraction_text(fraction)), fraction)

    def test_what_is_none(self):
        words = """
        -1 -1/2 -0 0/1 0/2 1/1 2/4 4/2 3/3 1/0 0/0 1/-2 1/ /2 / 1/2/3 01 1/02 01/2 +1 1/+2 a 1/a 1*2 1.5 -1/-2 1//2
        """.split()
        for word in words + ["", " ", "1 ", " 1", "1 /2"]:
            self.assertIsNone(reach_in(word))


if __name__ == "__main__":
    unittest.main()
