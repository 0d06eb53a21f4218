"""Drawn programs by all three machines, beside a second machine that is written from the document in another way, and
texts at random beside the plain reading (4, 14, 15, 19 to 22)."""

import random
import unittest

from slumberway.errors import Clash, Endless
from slumberway.machines import by_name, shared
from slumberway.making import core
from slumberway.printer import printed
from slumberway.reader import tree_of
from slumberway.rows import by_rows, rows_of
from tests.drawn import drawn
from tests.grown import Grower
from tests.readings import Long, Plain
from tests.second_machine import Second

BOUNDS = [(4, 1500), (0, 1500), (1, 7), (2, 40)]


def waits(e):
    return e[0] not in ("num", "con", "fun")


class Beside(unittest.TestCase):

    def beside(self, one, turned=True, bounds=BOUNDS):
        """Sets all that is told of a program's tops beside one another; tells the words of the answers."""
        words = []
        rows = rows_of(one)
        before = repr(one)
        for x, _ in one[2]:
            for depth, most in bounds:
                once = shared(one, x, depth=depth, most=most)
                by = by_name(one, x, depth=depth, most=most)
                self.assertEqual(once, Second(one, True, most).run(x, depth))
                self.assertEqual(by, Second(one, False, most).run(x, depth))
                self.assertEqual(by_rows(rows, x, depth=depth, most=most), once)
                self.no_more(by, once)
                if not turned:
                    tops = len([e for _, e in one[2] if waits(e)])
                    made = sum(made for _, _, made, _ in once[1])
                    self.assertLessEqual(sum(asked for _, _, _, asked in once[1]), made + tops)
                words.append(once[0][1] if once[0][0] == "fault" else once[0][0])
        self.assertEqual(repr(one), before)
        return words

    def no_more(self, by, once):
        """Where by name isn't long, shared tells the same and counts no more at any place."""
        if by[0] == ("long",):
            return
        self.assertEqual(by[0], once[0])
        counts = {p: counts for p, *counts in by[1]}
        for p, *told in once[1]:
            self.assertTrue(all(few <= many for few, many in zip(told, counts[p])))

    def test_programs(self):
        words = []
        for seed in range(260):
            with self.subTest(seed=seed):
                words.extend(self.beside(drawn(random.Random(seed))))
        for word, least in [("told", 500), ("long", 300), ("none", 30), ("kind", 20), ("odd", 15), ("great", 3)]:
            self.assertGreater(words.count(word), least, word)

    def test_programs_without_early_and_now(self):
        for seed in range(120):
            with self.subTest(seed=seed):
                self.beside(drawn(random.Random(seed), turned=False), turned=False)

    def test_odd_programs(self):
        """What fits nothing: many faults of kind, and functions where none should be."""
        words = []
        for seed in range(300):
            words.extend(self.beside(drawn(random.Random(seed), odd=0.25), bounds=[(3, 300)]))
        self.assertGreater(words.count("kind"), 40)

    def test_each_most(self):
        """Each end at which most may cut a run off."""
        for seed in range(30):
            one = drawn(random.Random(seed))
            self.beside(one, bounds=[(2, most) for most in range(1, 30)])


class Texts(unittest.TestCase):

    def by_all(self, text, depths=(0, 1, 6), most=600):
        """Sets what the machines tell of a text's core beside what the plain reading tells of its tree."""
        program, tree = core(text), tree_of(text)
        places, rows, words = program[0], rows_of(program), []
        for x, _ in program[2]:
            for depth in depths:
                try:
                    wanted = Plain(tree, most).answer(x, depth)
                except Long:
                    continue
                by = by_name(program, x, depth=depth, most=12 * most)
                self.assertEqual(at_places(places, by[0]), wanted)
                once = shared(program, x, depth=depth, most=12 * most)
                self.assertEqual(once[0], by[0])
                self.assertEqual(by_rows(rows, x, depth=depth, most=12 * most), once)
                words.append(wanted[1] if wanted[0] == "fault" else wanted[0])
        return words

    def test_texts_at_random(self):
        words = []
        for seed in range(150):
            chance = random.Random(seed)
            text = printed(Grower(chance, chance.choice([2, 3])).tree(chance.choice([1, 2, 3, 4])))
            try:
                words.extend(self.by_all(text))
            except (Clash, Endless):
                self.fail("grown texts have kinds")
        self.assertGreater(words.count("told"), 300)
        self.assertGreater(words.count("none"), 10)

    def test_texts_by_hand(self):
        text = ["data List a = Nil | Cons a (List a)", "take 0 _ = Nil", "take n (Cons a r) = Cons a (take (n - 1) r)",
                "zip f (Cons a r) (Cons b s) = Cons (f a b) (zip f r s)", "tail (Cons _ r) = r",
                "fibs = Cons 0 (Cons 1 (zip (fun a b -> a + b) fibs (tail fibs)))", "x = take 5 fibs",
                "y = case x of Cons 7 _ -> 1", "big = 1000000000000000000000000000000", "z = big * big * 10",
                "w = take 3 (let ones = Cons (1 - 2) ones in ones)", "v = zip (fun a -> Cons a)"]
        self.assertEqual(sorted(set(self.by_all(text, most=3000))), ["great", "none", "told"])
        answer, _ = shared(core(text), "x")
        self.assertEqual(answer[1], "Cons(0, Cons(1, Cons(1, Cons(2, Cons(3, Nil)))))")


def at_places(places, answer):
    """Tells an answer with the places themselves, as the plain reading tells it."""
    if answer[0] == "told":
        return ("told", answer[1], [(str(what), places[p]) for what, p in answer[2]])
    return ("fault", answer[1], places[answer[2]])


if __name__ == "__main__":
    unittest.main()
