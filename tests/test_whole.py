"""What the document promises over the whole program."""

import copy
import importlib
import os
import pathlib
import random
import subprocess
import sys
import unittest

from nearposts.desk import Desk
from nearposts.errors import PostError
from nearposts.least import best_posts, least_reach, shown
from nearposts.lines import are_apart, fewest, meeting, reach_of
from nearposts.rings import ring_holds, ring_least, ring_posts, ring_reach, ring_shown
from nearposts.squares import square_least, square_posts, square_reach
from nearposts.tables import Ways, best_table, farthest_first, table_reach, within_twice
from nearposts.texts import folk_text, fraction_text, read_folk
from nearposts.watches import Watch
from reckoning import BIG, ReckoningTest

FOLDER = pathlib.Path(__file__).resolve().parent
INTERFACE = {
    "errors": "PostError NoMany NoPosts NoReach NoRing NoLine NoWord NoFolk NoPost NoTable NoWay NoThing NoText NoName",
    "lines": "reach_of meeting fewest are_apart",
    "least": "least_reach best_posts shown",
    "rings": "ring_reach ring_least ring_posts ring_shown ring_holds",
    "squares": "square_least square_posts square_reach",
    "tables": "Ways table_reach farthest_first within_twice best_table",
    "watches": "Watch",
    "texts": "folk_text fraction_text read_folk",
    "desk": "Desk",
}


def line_answers(folk):
    told = [folk_text(folk), read_folk(folk_text(folk)), reach_of(folk, [(1, 2), (-BIG, 7)])]
    for many in (1, 2, BIG):
        told += [least_reach(folk, many), best_posts(folk, many), shown(folk, many)]
    for reach in ((0, 1), (1, 2), (BIG, 3)):
        told += [fewest(folk, reach), are_apart(folk, [0, 1], reach), fraction_text(reach)]
    return told + [meeting(folk, 0, 1)]


def ring_answers(around, places):
    told = [ring_reach(around, places, [(1, 2)])]
    for many in (1, 2, BIG):
        told += [ring_least(around, places, many), ring_posts(around, places, many), ring_shown(around, places, many)]
    return told + [ring_holds(around, places, (1, 2), [[place, place + 1] for place in sorted(set(places))])]


def square_answers(folk):
    told = [square_reach(folk, [((1, 2), (0, 1))])]
    return told + [call(folk, many) for call in (square_least, square_posts) for many in (1, 2)]


def table_answers(table):
    ways = Ways(table)
    told = [ways.count, ways.rows, table_reach(ways, [0])]
    for many in (1, 2, BIG):
        told += [farthest_first(ways, many, 1), within_twice(ways, many), best_table(ways, many)]
    return told


def watch_answers(folk):
    told = []
    watch = Watch(2)
    for x, y in folk:
        told += [watch.come(x, y), watch.posts(), watch.mark(), watch.bar(), watch.reach()]
    return told + [watch.folk()]


def desk_answers(folk):
    told = []
    desk = Desk()
    lines = ["line b nobody", f"line a {folk_text(folk[:4])}", "put b 3 1", "all", "show a", "least a 2", "posts a 2"]
    for line in lines + ["apart a 1", "fewest a 7/2", "show c", "put b 3 0", "drop b", "all"]:
        try:
            told.append(desk.tell(line))
        except PostError as error:
            told.append((type(error).__name__, vars(error)))
    return told


def all_asked():
    chance = random.Random(81)
    asked = []
    for most in (3, 60, BIG):
        folk = [(chance.randint(-most, most), chance.randint(1, most)) for at in range(9)]
        asked.append((line_answers, folk))
        asked.append((square_answers, folk))
        asked.append((watch_answers, folk))
        asked.append((desk_answers, folk))
        places = [chance.randrange(most) for at in range(9)]
        asked.append((lambda places, around=most: ring_answers(around, places), places))
        asked.append((table_answers, [[abs(one - other) for other in places] for one in places]))
    return asked


def all_answers():
    return [call(handed) for call, handed in all_asked()]


class WholeTest(ReckoningTest):
    def test_the_interface_is_there(self):
        for module, names in INTERFACE.items():
            held = importlib.import_module(f"nearposts.{module}")
            for name in names.split():
                self.assertTrue(callable(getattr(held, name)), name)

    def test_what_is_handed_in_is_not_changed(self):
        for call, handed in all_asked():
            kept = copy.deepcopy(handed)
            call(handed)
            self.assertEqual(handed, kept)

    def test_what_was_told_is_not_changed_by_what_is_asked_later(self):
        told = all_answers()
        kept = copy.deepcopy(told)
        all_answers()
        self.assertEqual(told, kept)

    def test_told_lists_are_the_askers_own(self):
        for call, handed in all_asked():
            self.assert_asker_owns(lambda: call(handed))

    def test_told_lists_are_not_those_handed_in(self):
        for call, handed in all_asked():
            told = call(handed)
            kept = copy.deepcopy(told)
            for row in handed:
                if isinstance(row, list):
                    row.clear()
            handed.clear()
            self.assertEqual(told, kept)

    def test_the_same_asked_in_another_order_is_told_the_same(self):
        asked = all_asked()
        answers = [call(handed) for call, handed in asked]
        self.assertEqual([call(handed) for call, handed in reversed(asked)], answers[::-1])

    def test_another_run_with_another_seed_of_hashes_tells_the_same(self):
        expected = repr(all_answers())
        script = "import test_whole; print(repr(test_whole.all_answers()))"
        for seed in ("0", "1", "77"):
            paths = os.pathsep.join([str(FOLDER), str(FOLDER.parent)])
            held = {**os.environ, "PYTHONHASHSEED": seed, "PYTHONPATH": paths}
            told = subprocess.run([sys.executable, "-c", script], env=held, capture_output=True, text=True, check=True)
            self.assertEqual(told.stdout.strip(), expected)


if __name__ == "__main__":
    unittest.main()
