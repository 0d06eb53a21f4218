"""The two ways in which texts are read, by calls within calls and by the grammar's table, tell the same."""

import random
import unittest

from slumberway.errors import NoReading, NoSign
from slumberway.lexemes import laid
from slumberway.printer import printed
from slumberway.quickreader import OddText, QuickReader
from slumberway.reader import tree_by_table, tree_of
from tests.grown import Grower
from tests.helper import Setter, sentence
from tests.test_small_texts import WHOLE, bent


class Both(unittest.TestCase):

    def check(self, text):
        try:
            told = laid(text)
        except NoSign:
            return "no signs"
        before = list(told)
        try:
            quick = QuickReader(told).tree()
        except OddText:
            quick = None
        try:
            tree = tree_by_table(told)
        except NoReading:
            tree = None
        self.assertEqual(told, before)
        self.assertEqual(quick, tree, text)
        return "odd" if quick is None else "read"

    def test_whole_and_bent_texts(self):
        seen = []
        for seed in range(300):
            chance = random.Random(seed)
            for text in [chance.choice(WHOLE), printed(Grower(chance, 3).tree(2))]:
                seen.append(self.check(text))
                seen.extend(self.check(bent(chance, text)) for _ in range(3))
            words = sentence(chance, "text", chance.choice([3, 4, 5, 6, 7]))
            if len(words) < 150:
                text = Setter(chance).set_words(words)
                self.assertEqual(self.check(text), "read")
                seen.extend(self.check(bent(chance, text)) for _ in range(3))
        self.assertGreater(seen.count("read"), 800)
        self.assertGreater(seen.count("odd"), 800)

    def test_texts_without_anything(self):
        for text in ([], [""], ["-- remark"], ["f"], ["data"], ["f ="], ["data A = "], ["f = let"], ["f = case x of"]):
            self.assertEqual(self.check(text), "odd")

    def test_deep_texts_are_read_all_the_same(self):
        for many in (10, 57, 58, 59, 60, 61, 62, 90, 300):
            for head, tail in [("if x then x else", ""), ("fun y ->", ""), ("let y = x in", ""), ("if", "then x else x")]:
                text = ["f x ="] + [" " + head] * many + [" x"] + [" " + tail] * many * bool(tail)
                tree = tree_of(text)
                self.assertEqual(tree, tree_by_table(laid(text)))
                e, count = tree[0][3][0][2][0][1], 0
                while e[0] in ("if", "fun", "let"):
                    e = e[2] if head == "if" else e[-1]
                    count += 1
                self.assertEqual((count, e[0]), (many, "name"))
        for many in (10, 29, 30, 59, 60, 61):
            for one, other in [("f = " + "(" * many, "x" + ")" * many), ("f (" * many, "x" + ")" * many + " = 1")]:
                text = [one + other]
                try:
                    told = tree_of(text)
                except NoReading:
                    self.assertRaises(NoReading, tree_by_table, laid(text))
                else:
                    self.assertEqual(told, tree_by_table(laid(text)))


if __name__ == "__main__":
    unittest.main()
