import unittest

from slumberway.errors import NoReading
from slumberway.lexemes import laid, lexemes
from slumberway.reader import tree_of
from tests.helper import refusal, slow_laid


def wrapped(words, ahead="f ="):
    """Tells rows of at most 100 signs with some words, all behind the first one's beginning."""
    rows = [ahead]
    for word in words:
        if len(rows[-1]) + 1 + len(word) > 100:
            rows.append(" ")
        rows[-1] += " " + word
    return rows


def side(tree):
    """Tells the one side of a text of one equation."""
    ((_, _, _, ((_, _, ((_, told),)),)),) = tree
    return told


class Wide(unittest.TestCase):
    def test_rows_of_a_hundred_signs(self):
        row = "f = " + "a " * 48
        text = [row[:100].ljust(100, "b")] * 120
        self.assertTrue(all(len(row) == 100 for row in text))
        self.assertEqual(len(lexemes(text)), 120 * 50)
        ((_, _, _, equations),) = tree_of(text)
        self.assertEqual([place for place, _, _ in equations], [(row, 1) for row in range(1, 121)])

    def test_a_hundred_and_twenty_defs(self):
        names = [one + other for one in "abcdefghij" for other in "xyzuvw"]
        text = [one + " = " + one + " + 1" for one in names for _ in range(2)]
        tree = tree_of(text)
        self.assertEqual([line[2] for line in tree], names)
        self.assertTrue(all(len(line[3]) == 2 for line in tree))

    def test_forty_ops(self):
        told = side(tree_of(wrapped(["1"] + ["- 1"] * 40)))
        for _ in range(40):
            self.assertEqual((told[0], told[2], told[4][2]), ("op", "-", 1))
            told = told[3]
        self.assertEqual(told, ("num", (1, 5), 1))

    def test_long_numbers(self):
        self.assertEqual(side(tree_of(["f = " + "9" * 30])), ("num", (1, 5), 10 ** 30 - 1))
        self.assertEqual(side(tree_of(["f = " + "9" * 96])), ("num", (1, 5), 10 ** 96 - 1))

    def test_rows_longer_and_more_than_told(self):
        text = ["f = 1" + " + 1" * 50] * 200
        self.assertEqual(len(lexemes(text)), 200 * 103)
        ((_, _, _, equations),) = tree_of(text)
        self.assertEqual(len(equations), 200)


class Deep(unittest.TestCase):
    # Four hundred parts within one another are in bounds; that two thousand go, too, shows that no call hangs on depth.
    DEPTHS = (400, 2000)

    def test_funs(self):
        for depth in self.DEPTHS:
            told = side(tree_of(wrapped(["fun a ->"] * depth + ["a"])))
            for _ in range(depth):
                self.assertEqual(told[0], "fun")
                told = told[3]
            self.assertEqual(told[0::2], ("name", "a"))

    def test_ifs(self):
        for depth in self.DEPTHS:
            words = ["if a then 1 else"] * depth + ["2"]
            told = side(tree_of(wrapped(words)))
            for _ in range(depth):
                self.assertEqual((told[0], told[3][2]), ("if", 1))
                told = told[4]
            self.assertEqual(told[2], 2)

    def test_ifs_in_ifs(self):
        for depth in self.DEPTHS:
            words = ["if"] * depth + ["a"] + ["then b else c"] * depth
            told = side(tree_of(wrapped(words)))
            for _ in range(depth):
                self.assertEqual((told[0], told[3][2], told[4][2]), ("if", "b", "c"))
                told = told[2]
            self.assertEqual(told[2], "a")

    def test_lets(self):
        for depth in self.DEPTHS:
            told = side(tree_of(wrapped(["let x = 1 in"] * depth + ["x"])))
            for _ in range(depth):
                self.assertEqual((told[0], len(told[2])), ("let", 1))
                told = told[3]
            self.assertEqual(told[2], "x")

    def test_thirty_blocks_of_lets(self):
        rows = ["f ="]
        for depth in range(30):
            rows.append(" " * (3 * depth + 1) + "let")
            rows.append(" " * (3 * depth + 3) + "x =")
        rows[-1] += " 1"
        for depth in reversed(range(30)):
            rows.append(" " * (3 * depth + 1) + "in x")
        told = side(tree_of(rows))
        for depth in range(30):
            self.assertEqual(told[:2], ("let", (2 * depth + 2, 3 * depth + 2)))
            self.assertEqual(told[3][0::2], ("name", "x"))
            ((_, _, _, ((_, _, ((_, told),)),)),) = told[2]
        self.assertEqual(told[2], 1)

    def test_thirty_blocks_of_cases(self):
        rows = ["f ="]
        for depth in range(30):
            rows.append(" " * (3 * depth + 1) + "case x of")
            rows.append(" " * (3 * depth + 3) + "y ->")
        rows[-1] += " 1"
        told = side(tree_of(rows))
        for depth in range(30):
            self.assertEqual(told[:2], ("case", (2 * depth + 2, 3 * depth + 2)))
            ((_, _, ((_, told),)),) = told[3]
        self.assertEqual(told[2], 1)

    def test_brackets(self):
        for depth in (30, 2000):
            told = side(tree_of(wrapped(["("] * depth + ["a"] + [")"] * depth)))
            self.assertEqual(told[0::2], ("name", "a"))

    def test_calls_in_calls(self):
        for depth in (30, 2000):
            told = side(tree_of(wrapped(["g (h"] * depth + ["1"] + [")"] * depth)))
            for _ in range(depth - 1):
                self.assertEqual((told[0], told[2][2]), ("call", "g"))
                ((_, _, head, rest),) = told[3]
                self.assertEqual(head[2], "h")
                told = ("call", None, rest[0], rest[1:])
            self.assertEqual(told[3][0][3][0][2], 1)

    def test_patterns_and_kinds(self):
        for depth in (30, 2000):
            ((_, _, _, ((_, (told,), _),)),) = tree_of(wrapped(["(A"] * depth + [")"] * depth + ["= 1"], "f"))
            for _ in range(depth - 1):
                self.assertEqual(told[2], "A")
                (told,) = told[3]
            ((_, _, _, _, ((_, _, (told,)),)),) = tree_of(wrapped(["(A"] * depth + [")"] * depth, "data D = M"))
            for _ in range(depth - 1):
                self.assertEqual(told[2], "A")
                (told,) = told[3]


class AnyRows(unittest.TestCase):
    def test_rows_of_brackets(self):
        for sign in "()":
            text = [sign * 100] * 120
            self.assertEqual(len(lexemes(text)), 12000)
            self.assertEqual([lexeme for lexeme in laid(text) if lexeme[1] == "mark"],
                             [((1, 1), "mark", "open"), ((120, 101), "mark", "shut")])
            error = refusal(self, NoReading, tree_of, text)
            self.assertEqual((error.place, error.wants), ((1, 1), ["data", "name"]))

    def test_brackets_that_are_not_closed(self):
        text = ["f = ".ljust(100, "(")] + ["(" * 100] * 119
        error = refusal(self, NoReading, tree_of, text)
        self.assertEqual(error.place, (120, 101))
        self.assertEqual(error.wants, ["(", "case", "fun", "if", "let", "maker", "name", "number"])
        error = refusal(self, NoReading, tree_of, [*text[:-1], "a"])
        self.assertEqual(error.place, (120, 2))
        self.assertEqual(error.wants, ["(", ")", "*", "+", "-", "<", "==", "maker", "name", "number"])

    def test_rows_of_lets_and_brackets(self):
        for row in ("let (" * 20, "let ( in ) of " * 7, "let in of ( " * 8, "let x ", ") in ", "( of let"):
            text = [" " * (number % 7) + row[:93] for number in range(120)]
            self.assertEqual(laid(text), slow_laid(lexemes(text)))

    def test_blocks_as_many_as_a_row_has_columns(self):
        text = ["let " * 25] * 2 + ["in " * 33] * 2
        self.assertEqual(laid(text), slow_laid(lexemes(text)))


if __name__ == "__main__":
    unittest.main()
