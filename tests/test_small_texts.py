"""tree_of of some thousand small texts, told and refused, each beside what a second reading tells (7, 8)."""

import random
import unittest

from slumberway.building import ACTS, CLOSERS
from slumberway.errors import NoReading
from slumberway.grammar import STEPS
from slumberway.lexemes import lexemes
from slumberway.reader import tree_of
from tests.helper import LEXEME_WORDS, SPELT, Setter, sentence
from tests.second_reader import second_reading

WHOLE = [
    ["data List a = Nil | Cons a (List a)", "length Nil = 0", "length (Cons _ rest) = 1 + length rest", "map f Nil = Nil",
     "map f (Cons x r) = Cons (f x) (map f r)", "main = let x = map length in case x of Nil -> 0"],
    ["x = 1"],
    ["data A a b = B (a -> (b -> Num) -> C a) | D", "f 1 (B _ (C 2)) | x < 1 = 2 | y == 2 * 3 - (4 + 5) = fun a b -> c"],
    ["f x = let", "    y = 1", "    z 2 = case x of", "      A b | c -> d", "          | e -> g", "      _ -> h", "  in y"],
    ["f = if (case a of b -> c) then let d = 1 in d else (fun e -> e) (g (h i)) 2 A"],
    ["f = case case a of b -> c", "      of (d) -> e", "         1 -> f == g", "f = h"],
]


def spelt(chance, word):
    return chance.choice(SPELT.get(word, [word]))


def bent(chance, text):
    """Tells a text with a lexeme more, less, or in another one's stead, or with another row's begin."""
    text = list(text)
    found = lexemes(text)
    (row, column), _, word = chance.choice(found)
    old = text[row - 1]
    ahead, behind = old[:column - 1], old[column - 1 + len(word):]
    way = chance.choice(["more", "less", "other", "other", "shift", "break"])
    if way == "more":
        text[row - 1] = f"{ahead} {spelt(chance, chance.choice(LEXEME_WORDS))} {word}{behind}"
    elif way == "less":
        text[row - 1] = ahead + " " * len(word) + behind
    elif way == "other":
        text[row - 1] = f"{ahead} {spelt(chance, chance.choice(LEXEME_WORDS))} {behind}"
    elif way == "shift":
        text[row - 1] = " " * chance.randrange(5) + old.lstrip()
    else:
        text[row - 1:row] = [ahead, " " * chance.randrange(6) + old[column - 1:]]
    return text


class Small(unittest.TestCase):

    def check(self, text):
        wanted = second_reading(lexemes(text))
        try:
            told = ("tree", tree_of(text))
        except NoReading as error:
            told = ("refused", error.place, error.wants)
        self.assertEqual(told, wanted, text)
        return told[0]

    def test_whole_texts(self):
        for text in WHOLE:
            self.assertEqual(self.check(text), "tree")

    def test_bent_texts(self):
        seen = {"tree": 0, "refused": 0}
        for seed in range(1400):
            chance = random.Random(seed)
            text = bent(chance, chance.choice(WHOLE))
            if chance.random() < 0.3:
                text = bent(chance, text)
            seen[self.check(text)] += 1
        self.assertGreater(seen["tree"], 200)
        self.assertGreater(seen["refused"], 600)

    def test_drawn_texts(self):
        seen = {"tree": 0, "refused": 0}
        for seed in range(1600):
            chance = random.Random(seed)
            words = sentence(chance, "text", chance.choice([3, 4, 5, 6, 7]))
            if len(words) > 60:
                continue
            text = Setter(chance).set_words(words)
            self.assertEqual(self.check(text), "tree")
            seen["tree"] += 1
            seen[self.check(bent(chance, text))] += 1
        self.assertGreater(seen["tree"], 1000)
        self.assertGreater(seen["refused"], 500)

    def test_each_lexeme_behind_each_begin(self):
        for text in WHOLE[1:]:
            row = " ".join(word for _, _, word in lexemes(text))
            words = row.split()
            for many in range(len(words)):
                for word in LEXEME_WORDS:
                    self.check([" ".join([*words[:many], SPELT.get(word, [word])[0]])])
                if many > 24:
                    break


class Tables(unittest.TestCase):

    def test_the_tables_fit(self):
        self.assertEqual(set(name for name, _ in STEPS.values()), set(ACTS))
        states = {state for state, _ in STEPS}
        self.assertLessEqual(set(CLOSERS), states | {"pattern)", "side", "choice side", "fun body", "let body", "else",
                                                     "case shut", "kind behind"})
        for _, state in STEPS.values():
            self.assertTrue(state in states or state in CLOSERS or state == "text end", state)


if __name__ == "__main__":
    unittest.main()
