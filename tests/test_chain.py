"""chain and chain_judged: demands that can't go together, none of them to spare (13)."""

import random
import unittest

from slumberway.errors import Clash, Endless, SlumberError
from slumberway.kinds import chain, chain_judged, demands, kinds
from slumberway.printer import printed
from slumberway.reader import tree_of
from tests.grown import Grower, bent, loose_tree
from tests.helper import refusal
from tests.second_kinds import Second, meets

FAULTY = [
    ["f = 1 2"],
    ["f x = x x"],
    ["f = 1 + True"],
    ["f x = if x then x + 1 else 2"],
    ["f = g 1", "g x = f True", "h = 1 2"],
    ["a = 1", "f x = let g y = x y in g g", "b = 2"],
    ["data List a = Nil | Cons a (List a)", "f (Cons x r) = x", "f 1 = 2"],
    ["f x = case x of", "  1 -> 2", "  True -> 3"],
    ["f x y z = if x y then y z else if z x then 1 else 2"],
    ["f = g 1", "g x = x", "h y = y (g True) + y 1 2"],
]


class Chain(unittest.TestCase):

    def check(self, text):
        told = chain(text)
        second = Second(tree_of(text))
        found = second.demands
        self.assertIsInstance(told, list)
        self.assertEqual(told, sorted(set(told)))
        self.assertTrue(all(number.__class__ is int and 0 <= number < len(found) for number in told))
        self.assertNotEqual(meets([found[number] for number in told])[0], "fine")
        for number in told:
            self.assertEqual(meets([found[other] for other in told if other != number])[0], "fine")
        self.assertIs(chain_judged(text, told), True)
        return told, found

    def test_told(self):
        for text in FAULTY:
            with self.subTest(text=text):
                self.check(text)

    def test_just_one_row_there_is(self):
        self.assertEqual(chain(["f = 1 2"]), [0])
        text = ["f x = (1 + 1) + g (x 2) x + x", "g y z = 1"]
        # x is a function where it is called, and a number at the end.
        self.assertEqual([demands(text, "f")[number] for number in chain(text)],
                         [((1, 22), "a", "Num -> b"), ((1, 29), "a", "Num")])

    def test_none_of_texts_with_kinds(self):
        for text in (["f = 1"], ["f x = g", "g = 1"], ["data A = B"]):
            self.assertIsNone(chain(text))

    def test_new_again_and_by_names(self):
        text = ["f = 1 2"]
        told = chain(text=text)
        told.clear()
        self.assertEqual(chain(text), [0])
        self.assertIs(chain_judged(text=text, numbers=[0]), True)
        numbers = [0]
        chain_judged(text, numbers)
        self.assertEqual((text, numbers), (["f = 1 2"], [0]))

    def test_long_chains(self):
        names = [one + other for one in "abcdefg" for other in "abcdefgh"]
        text = ["data T = T Num Truth", "f a = let b = a", *[" " * 10 + f"{name} = {before}" for before, name in
                                                            zip(["b"] + names, names)], "      in T gh b"]
        told, found = self.check(text)
        self.assertGreater(len(told), 50)
        self.assertIs(chain_judged(text, told[:-1]), False)

    def test_the_first_faulty_group_alone(self):
        text = ["f = 1", "g x = x x", "h = 1 2"]
        self.assertEqual(len(demands(text, "g")), 2)
        self.assertEqual(chain(text), [0])
        self.assertIs(chain_judged(text, [1]), False)


class Judged(unittest.TestCase):

    def test_no_such_lists(self):
        text = ["f x = if x then x + 1 else 2"]
        good = chain(text)
        many = len(demands(text, "f"))
        self.assertIs(chain_judged(text, good), True)
        for thing in (None, 0, "0", (), tuple(good), {0: 1}, [], good[::-1], good + [many], [-1] + good, good[1:], good[:-1],
                      good + good, [good[0]] + good, sorted(good + [many - 1]), list(range(many)), [good],
                      [str(number) for number in good], [None], [[]], [{}], good + [None], good + ["x"],
                      [float(number) for number in good], {number: 1 for number in good}, iter(good)):
            self.assertIs(chain_judged(text, thing), False, thing)

    def test_numbers_below_none(self):
        text = ["f = if f then 1 else 2"]
        self.assertEqual(chain(text), [0, 2])
        self.assertIs(chain_judged(text, [-1, 0]), False)
        self.assertIs(chain_judged(text, [0, -1]), False)
        self.assertIs(chain_judged(text, [0, 3]), False)

    def test_truths_are_no_numbers(self):
        self.assertIs(chain_judged(["f = 1 + True"], [1]), True)
        self.assertIs(chain_judged(["f = 1 + True"], [True]), False)
        self.assertIs(chain_judged(["f = 1 2"], [False]), False)
        self.assertIs(chain_judged(["f = 1 2"], [0]), True)

    def test_demands_behind_the_fault_count_too(self):
        text = ["f x = (1 2) + (True + 3)"]
        found = demands(text, "f")
        self.assertIs(chain_judged(text, [found.index(((1, 10), "Num", "Num -> a"))]), True)
        self.assertIs(chain_judged(text, [found.index(((1, 16), "Truth", "Num"))]), True)
        self.assertIs(chain_judged(text, [0, found.index(((1, 16), "Truth", "Num"))]), False)

    def test_texts_with_kinds_have_none(self):
        for thing in (None, [], [0], [0, 1]):
            self.assertIs(chain_judged(["f = 1 + 2"], thing), False)

    def test_drawn_lists(self):
        yes = no = 0
        for seed in range(300):
            chance = random.Random(seed)
            if chance.random() < 0.5:
                text = printed(loose_tree(chance, 1))
            else:
                text = printed(bent(chance, Grower(chance, 2).tree(1)))
            try:
                kinds(text)
                continue
            except (Clash, Endless) as error:
                refused = error.__class__
            except SlumberError:
                continue
            with self.subTest(seed=seed):
                found = Second(tree_of(text)).demands
                told = chain(text)
                self.assertIs(chain_judged(text, told), True)
                refusal(self, refused, kinds, text)
                for _ in range(6):
                    numbers = list(told)
                    for _ in range(chance.choice([1, 1, 2])):
                        number = chance.randrange(len(found))
                        if number in numbers:
                            numbers.remove(number)
                        else:
                            numbers.append(number)
                    numbers.sort()
                    wanted = meets([found[number] for number in numbers])[0] != "fine" and all(
                        meets([found[other] for other in numbers if other != number])[0] == "fine" for number in numbers)
                    self.assertIs(chain_judged(text, numbers), wanted)
                    yes, no = yes + wanted, no + (not wanted)
        self.assertGreater(yes, 10)
        self.assertGreater(no, 100)


if __name__ == "__main__":
    unittest.main()
