"""Rows of programs: their form, their text, and what is asked of them alone (23)."""

import random
import unittest

from slumberway.errors import NoName, NoText
from slumberway.machines import shared
from slumberway.making import core
from slumberway.printer import printed
from slumberway.rows import by_rows, read_rows, rows_of, rows_text
from tests.drawn import drawn
from tests.grown import Grower
from tests.helper import refusal

TRUTH = (("False", 0), ("True", 0))
LIST = (("Nil", 0), ("Cons", 2))
DATA = {"False": TRUTH, "True": TRUTH, "Nil": LIST, "Cons": LIST, "Big": (("Big", 60),)}
ONE = ("num", 0, 1)


def program(*tops, data=DATA):
    return ([(1, 1), (1, 2), (2, 1)], dict(data), list(tops))


def name(x):
    return ("name", 1, x)


ALL_KINDS = program(
    ("f", ("fun", 0, ("a", "b.1"), ("let", 1, (("c", ("con", 0, "Cons", (("num", 1, 0), name("f")))), ("d.12", name("c")),
                                               ("z", ("fun", 2, ("zz",), name("b.1")))),
                                    ("case", 0, name("b.1"), "e", (
                                        ("Cons", ("g", "h"), ("call", 0, name("g"), (name("h"), ("num", 0, 3)))),
                                        (7, (), ("deed", 0, "less", name("e"), ("num", 2, 5)))),
                                     ("early", 0, "i", name("a"), 2, ("now", 1, 2, "e", name("i"))))))),
    ("k", ("case", 0, ONE, "x.3", (), None)),
    ("z0", ("fault", 2, "none")),
    ("n", ("num", 1, 10 ** 60 - 1)),
    ("l", ("con", 1, "Nil", ())),
    ("x", ("call", 0, name("f"), (name("n"), name("l")))),
)


class Forms(unittest.TestCase):

    def check_form(self, rows, places):
        """Each row a tuple of texts, whole numbers, None and such tuples, each with a place or None as its second thing."""
        self.assertIs(rows.__class__, list)
        pile = [(row, 1) for row in rows]
        while pile:
            row, deep = pile.pop()
            self.assertIs(row.__class__, tuple)
            self.assertLessEqual(deep, 8)
            self.assertGreaterEqual(len(row), 2)
            self.assertIn(row[1].__class__, (int, None.__class__))
            if row[1] is not None:
                self.assertIn(row[1], range(places))
            for thing in row:
                if isinstance(thing, tuple):
                    pile.append((thing, deep + 1))
                else:
                    self.assertIn(thing.__class__, (str, int, None.__class__))

    def check_text(self, rows):
        before = repr(rows)
        text = rows_text(rows)
        self.assertEqual(repr(rows), before)
        self.assertIs(text.__class__, str)
        self.assertFalse(text.endswith("\n"))
        told = read_rows(text)
        self.assertEqual(told, rows)
        self.assertEqual(repr(told), before)
        self.assertEqual(rows_text(told), text)
        return text.split("\n")

    def left_out(self, lines):
        for at in range(len(lines)):
            refusal(self, NoText, read_rows, "\n".join(lines[:at] + lines[at + 1:]))

    def test_all_kinds_of_parts(self):
        rows = rows_of(ALL_KINDS)
        self.check_form(rows, 3)
        self.left_out(self.check_text(rows))

    def test_programs_with_little_in_them(self):
        for one in (([], {}, []), program(), program(("f", ONE)), program(("f", ("fun", 0, ("a",), name("a"))))):
            rows = rows_of(one)
            self.check_form(rows, len(one[0]))
            self.left_out(self.check_text(rows))
            refusal(self, NoName, by_rows, rows, "g")

    def test_sixty_things_and_long_words(self):
        many = tuple(f"a{number}" for number in range(60))
        one = program(("f", ("fun", 0, many, ("con", 0, "Big", tuple(name(x) for x in many)))), ("a" * 100, ("call", 1, name("f"), (ONE,) * 60)),
                      ("g", ("let", 0, tuple((f"b.{number}", ONE) for number in range(1, 61)), name("b.3"))),
                      ("h", ("case", 0, ONE, "c", tuple((number, (), ONE) for number in range(60)), None)),
                      ("i", ("case", 0, ONE, "d", (("Big", tuple(f"e{number}" for number in range(60)), name("e7")),), None)))
        rows = rows_of(one)
        self.check_form(rows, 3)
        self.left_out(self.check_text(rows))
        self.assertEqual(by_rows(rows, "a" * 100), shared(one, "a" * 100))

    def test_drawn_programs(self):
        for seed in range(60):
            one = drawn(random.Random(seed))
            rows = rows_of(one)
            self.check_form(rows, len(one[0]))
            lines = self.check_text(rows)
            for at in {0, 1, len(lines) - 1, random.Random(seed).randrange(len(lines))}:
                refusal(self, NoText, read_rows, "\n".join(lines[:at] + lines[at + 1:]))

    def test_deep_programs(self):
        e = ONE
        for number in range(200):
            e = [("fun", 0, (f"a{number}",), e), ("deed", 0, "plus", e, ONE), ("now", 0, 0, "z", e)][number % 3]
        one = program(("f", e))
        rows = rows_of(one)
        self.check_form(rows, 3)
        self.check_text(rows)
        self.assertEqual(by_rows(rows, "f"), shared(one, "f"))


class ByRowsAlone(unittest.TestCase):

    def check(self, one):
        wanted = {(x, depth, most): shared(one, x, depth=depth, most=most)
                  for x, _ in one[2] for depth in (0, 1, 5) for most in (1, 9, 300)}
        rows = rows_of(one)
        again = read_rows(rows_text(rows))
        # What the program's lists hold by now is nothing to the rows.
        one[0].clear()
        one[1].clear()
        one[2].clear()
        for (x, depth, most), told in wanted.items():
            before = repr(rows)
            self.assertEqual(by_rows(rows, x, depth=depth, most=most), told)
            self.assertEqual(repr(rows), before)
            self.assertEqual(by_rows(again, x, depth=depth, most=most), told)

    def test_all_kinds_of_parts(self):
        self.check((list(ALL_KINDS[0]), dict(ALL_KINDS[1]), list(ALL_KINDS[2])))

    def test_drawn_programs(self):
        for seed in range(120):
            self.check(drawn(random.Random(seed)))

    def test_cores_of_texts(self):
        for seed in range(20):
            self.check(core(printed(Grower(random.Random(seed), 3).tree(3))))


if __name__ == "__main__":
    unittest.main()
