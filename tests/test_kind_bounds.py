"""Texts at the bounds of (3): many rows, deep parts, wide kinds; nothing ends in an error of Python's own."""

import unittest

from slumberway.errors import Clash, Endless
from slumberway.kinds import chain, chain_judged, demands, kind_at, kinds
from slumberway.looked import looked_at
from slumberway.printer import led, printed
from slumberway.reader import tree_of
from tests.grown import without_places
from tests.helper import refusal

NAMES = [one + other for one in "abcdeghj" for other in "abcdeghjk"]


def deep(head, tail=""):
    """Tells a text whose parts stand four hundred within one another."""
    return ["f x ="] + [" " + head] * 400 + [" x"] + ([" " + tail] * 400 if tail else [])


class Deep(unittest.TestCase):

    def check(self, text, kind):
        self.assertIsNone(looked_at(text))
        self.assertEqual(kinds(text)["f"], kind)
        self.assertIsNone(chain(text))
        self.assertGreater(len(demands(text, "f")), 0)
        rows = printed(tree_of(text))
        self.assertEqual(printed(tree_of(rows)), rows)
        self.assertEqual(len(led(text, text)), len(led(rows, rows)))
        address = [0, 3, 0, 2, 0, 1]
        tree = tree_of(text)
        e = tree[0][3][0][2][0][1]
        steps = {"fun": 3, "let": 3, "if": 4, "op": 3}
        while e[0] in steps:
            address.append(steps[e[0]])
            e = e[steps[e[0]]]
        told = kind_at(text, tuple(address))
        self.assertIn(told, ("a", "b", "Num"))
        clash = [*text[:-1], " x (x + 1)"]
        error = refusal(self, Clash, kinds, clash)
        self.assertEqual(error.place[0], len(text))
        numbers = chain(clash)
        self.assertLessEqual(len(numbers), 402)
        self.assertIs(chain_judged(clash, numbers), True)

    def test_funs(self):
        self.check(["f x ="] + [" fun y ->"] * 398 + [" x"],
                   " -> ".join(["a"] + [self.letter(number) for number in range(1, 399)] + ["a"]))

    def letter(self, number):
        letters = "abcdefghijklmnopqrstuvwxyz"
        return letters[number] if number < 26 else letters[number // 26 - 1] + letters[number % 26]

    def test_lets(self):
        self.check(deep("let y = x in"), "a -> a")
        self.check(deep("let x = x in"), "a -> b")

    def test_ifs(self):
        self.check(deep("if x < 1 then x else"), "Num -> Num")
        self.check(deep("if True then x else"), "a -> a")

    def test_ops(self):
        self.check(["f x = x"] + [" + x"] * 39, "Num -> Num")

    def test_chained_arguments_in_brackets(self):
        text = ["f x = " + "f (" * 29, " x", ")" * 29]
        self.assertEqual(kinds(text), {"f": "a -> a"})

    def test_cases_within_cases(self):
        text = ["f x ="] + [" " * (12 * number + 1) + "case x of x ->" for number in range(29)] + [" " * 400 + "x"]
        self.assertEqual(kinds(text), {"f": "a -> a"})
        self.assertEqual(without_places(tree_of(printed(tree_of(text)))), without_places(tree_of(text)))


class Wide(unittest.TestCase):

    def test_sixty_tops_that_use_one_another(self):
        names = NAMES[:60]
        text = [f"{one} x = {other} x" for one, other in zip(names, names[1:] + names[:1])]
        self.assertEqual(set(kinds(text).values()), {"a -> b"})
        self.assertEqual(len(demands(text, "aa")), 120)
        text[-1] = f"{names[-1]} = {names[0]} 1 + 1"
        refusal(self, Clash, kinds, text)
        self.assertGreater(len(chain(text)), 1)
        self.assertIs(chain_judged(text, chain(text)), True)

    def test_sixty_tops_one_behind_the_other(self):
        names = NAMES[:60]
        text = [f"{one} x = {other} x" for one, other in zip(names, names[1:])] + [f"{names[-1]} x = x"]
        self.assertEqual(set(kinds(text).values()), {"a -> a"})
        self.assertEqual(set(kinds(text[::-1]).values()), {"a -> a"})

    def test_many_rows_of_ops(self):
        text = ["f x ="] + [" (" + "x * " * 20 + "1) +"] * 39 + [" x"]
        self.assertEqual(kinds(text), {"f": "Num -> Num"})
        text[20] = " (True + 1) +"
        self.assertEqual(refusal(self, Clash, kinds, text).place, (21, 3))
        self.assertEqual(len(chain(text)), 1)

    def test_a_ladder_of_lets(self):
        rows, before = ["f x = let"], "x"
        for name in NAMES[:58]:
            rows.append(f"     {name} = if True then {before} else {before}")
            before = name
        text = rows + [f"  in if {before} then x + 1 else 2"]
        refusal(self, Clash, kinds, text)
        numbers = chain(text)
        self.assertGreater(len(numbers), 58)
        self.assertIs(chain_judged(text, numbers), True)
        self.assertIs(chain_judged(text, numbers[1:]), False)
        self.assertEqual(kinds(rows + [f"  in {before}"]), {"f": "a -> a"})

    def test_a_kind_of_four_hundred_words(self):
        rows = ["data P a b = P a b", "f x = let", "   a = P x x"]
        for one, other in zip("abcdef", "bcdefg"):
            rows.append(f"   {other} = P {one} {one}")
        told = kinds(rows + ["  in g"])["f"]
        self.assertEqual(told.count("P"), 127)
        rows = ["data B a = B a", "f x = let", "   aa = B x"]
        for one, other in zip(NAMES[:57], NAMES[1:58]):
            rows.append(f"   {other} = B (B (B (B (B (B {one})))))")
        told = kinds(rows + [f"  in {NAMES[57]}"])["f"]
        self.assertEqual(told, "a -> " + "B (" * 342 + "B a" + ")" * 342)

    def test_endless_in_a_long_round(self):
        rows = ["data B a = B a", "f x = let"]
        names = NAMES[:59]
        for one, other in zip(names, names[1:] + names[:1]):
            rows.append(f"   {one} = B {other}")
        text = rows + ["  in 1"]
        error = refusal(self, Endless, kinds, text)
        self.assertEqual(error.place, (61, 9))
        self.assertEqual(len(chain(text)), 118)
        self.assertIs(chain_judged(text, chain(text)), True)


if __name__ == "__main__":
    unittest.main()
