"""printed and led: the rows of trees, and texts led to one another (9)."""

import random
import unittest

from slumberway.errors import NoSign
from slumberway.lexemes import laid, lexemes
from slumberway.printer import led, printed
from slumberway.reader import tree_of
from tests.grown import Grower, bent, without_places
from tests.helper import Setter, refusal, sentence

P = (0, 0)


def name(word):
    return ("name", P, word)


def num(n):
    return ("num", P, n)


def op(sign, left, right):
    return ("op", P, sign, left, right)


def one_def(e):
    return (("def", P, "x", ((P, (), ((None, e),)),)),)


def row_of(e):
    """Tells what stands behind x = of a tree of one row."""
    rows = printed(one_def(e))
    assert len(rows) == 1 and rows[0].startswith("x = ")
    return rows[0][4:]


A, B, C = name("a"), name("b"), name("c")
LOOSE = [
    (("fun", P, ((P, "y"),), A), "fun y -> a"),
    (("if", P, A, B, C), "if a then b else c"),
]
BLOCKS = [
    ("let", P, (("def", P, "y", ((P, (), ((None, A),)),)),), B),
    ("case", P, A, ((P, ("any", P), ((None, B),)),)),
]


class Brackets(unittest.TestCase):

    def check(self, e, row):
        self.assertEqual(row_of(e), row)
        self.assertEqual(without_places(tree_of(printed(one_def(e)))), without_places(one_def(e)))

    def test_calls(self):
        self.check(("call", P, A, (B, num(1), ("maker", P, "Nil"))), "a b 1 Nil")
        self.check(("call", P, num(1), (B,)), "1 b")
        self.check(("call", P, ("maker", P, "Cons"), (B, C)), "Cons b c")
        inner = ("call", P, A, (B,))
        self.check(("call", P, inner, (C,)), "(a b) c")
        self.check(("call", P, C, (inner, inner)), "c (a b) (a b)")
        self.check(("call", P, op("+", A, B), (op("*", A, B), op("<", A, B))), "(a + b) (a * b) (a < b)")
        for e, row in LOOSE:
            self.check(("call", P, e, (e,)), f"({row}) ({row})")

    def test_ops_beside_ops(self):
        wanted = {
            ("*", "*"): ("a * b * c", "a * (b * c)"),
            ("*", "+"): ("(a + b) * c", "a * (b + c)"),
            ("*", "-"): ("(a - b) * c", "a * (b - c)"),
            ("*", "<"): ("(a < b) * c", "a * (b < c)"),
            ("*", "=="): ("(a == b) * c", "a * (b == c)"),
            ("+", "*"): ("a * b + c", "a + b * c"),
            ("+", "+"): ("a + b + c", "a + (b + c)"),
            ("+", "-"): ("a - b + c", "a + (b - c)"),
            ("+", "<"): ("(a < b) + c", "a + (b < c)"),
            ("+", "=="): ("(a == b) + c", "a + (b == c)"),
            ("-", "*"): ("a * b - c", "a - b * c"),
            ("-", "+"): ("a + b - c", "a - (b + c)"),
            ("-", "-"): ("a - b - c", "a - (b - c)"),
            ("-", "<"): ("(a < b) - c", "a - (b < c)"),
            ("-", "=="): ("(a == b) - c", "a - (b == c)"),
            ("<", "*"): ("a * b < c", "a < b * c"),
            ("<", "+"): ("a + b < c", "a < b + c"),
            ("<", "-"): ("a - b < c", "a < b - c"),
            ("<", "<"): ("(a < b) < c", "a < (b < c)"),
            ("<", "=="): ("(a == b) < c", "a < (b == c)"),
            ("==", "*"): ("a * b == c", "a == b * c"),
            ("==", "+"): ("a + b == c", "a == b + c"),
            ("==", "-"): ("a - b == c", "a == b - c"),
            ("==", "<"): ("(a < b) == c", "a == (b < c)"),
            ("==", "=="): ("(a == b) == c", "a == (b == c)"),
        }
        for (outer, inner), (left, right) in wanted.items():
            with self.subTest(outer=outer, inner=inner):
                self.check(op(outer, op(inner, A, B), C), left)
                self.check(op(outer, A, op(inner, B, C)), right)

    def test_calls_in_ops_have_none(self):
        call = ("call", P, A, (B,))
        for sign in ("+", "-", "*", "<", "=="):
            self.check(op(sign, call, call), f"a b {sign} a b")

    def test_loose_ones_in_ops(self):
        for sign in ("+", "-", "*", "<", "=="):
            for e, row in LOOSE:
                self.check(op(sign, e, A), f"({row}) {sign} a")
                self.check(op(sign, A, e), f"a {sign} ({row})")
            for e in BLOCKS:
                for part in (op(sign, e, A), op(sign, A, e)):
                    rows = printed(one_def(part))
                    self.assertEqual(sum(row.count("(") for row in rows), 1)
                    self.assertEqual(without_places(tree_of(rows)), without_places(one_def(part)))

    def test_loose_ones_in_loose_ones_have_none(self):
        for e, row in LOOSE:
            self.check(("fun", P, ((P, "x"), (P, "z")), e), "fun x z -> " + row)
            self.check(("if", P, e, e, e), f"if {row} then {row} else {row}")
        for e in BLOCKS:
            for outer in [("fun", P, ((P, "x"),), e), ("if", P, e, e, e), *BLOCKS]:
                rows = printed(one_def(outer))
                self.assertNotIn("(", "".join(rows))
                self.assertEqual(without_places(tree_of(rows)), without_places(one_def(outer)))

    def test_patterns(self):
        inner = ("made", P, "Cons", (("bind", P, "y"), ("any", P)))
        bare = ("made", P, "Nil", ())
        patterns = (inner, bare, ("num", P, 12), ("any", P), ("bind", P, "z"), ("made", P, "Box", (inner, bare)))
        tree = (("def", P, "f", ((P, patterns, ((None, A),)),)),)
        self.assertEqual(printed(tree), ["f (Cons y _) Nil 12 _ z (Box (Cons y _) Nil) = a"])
        tree = one_def(("case", P, A, ((P, inner, ((None, B),)), (P, bare, ((None, B),)),
                                       (P, ("made", P, "Box", (inner,)), ((None, C),)))))
        self.assertEqual(printed(tree), ["x = case a of", "    Cons y _ -> b", "    Nil -> b", "    Box (Cons y _) -> c"])

    def test_kinds(self):
        letter = ("letter", P, "a")
        bare = ("kind", P, "Num", ())
        parts = ("kind", P, "List", (letter,))
        to = ("to", P, letter, bare)
        tree = (("data", P, "D", ((P, "a"), (P, "b")), (
            (P, "A", ()), (P, "B", (letter, bare, parts, to)),
            (P, "C", (("kind", P, "Pair", (parts, to)),)),
            (P, "E", (("to", P, to, ("to", P, parts, to)),)))),)
        row = "data D a b = A | B a Num (List a) (a -> Num) | C (Pair (List a) (a -> Num))" \
            " | E ((a -> Num) -> List a -> a -> Num)"
        self.assertEqual(printed(tree), [row])
        self.assertEqual(without_places(tree_of([row])), without_places(tree))
        self.assertEqual(printed((("data", P, "D", (), ((P, "A", ()),)),)), ["data D = A"])


class Rows(unittest.TestCase):

    def check(self, text, rows):
        self.assertEqual(printed(tree_of(text)), rows)
        self.assertEqual(without_places(tree_of(rows)), without_places(tree_of(text)))

    def test_equations(self):
        self.check(["f Nil=0", "f   ( Cons x y )", "   | x<1=2", " |x==1", "  = 3", "g=f", "f = g"],
                   ["f Nil = 0", "f (Cons x y)", "  | x < 1 = 2", "  | x == 1 = 3", "g = f", "f = g"])

    def test_a_def_without_patterns_of_several_equations(self):
        self.check(["x = 1", "x | True = 2", "x = 3"], ["x = 1", "x", "  | True = 2", "x = 3"])

    def test_blocks(self):
        self.check(["f x = case x of 1 -> 2", "                _ | x < 3 -> 4 | True -> 5"],
                   ["f x = case x of", "    1 -> 2", "    _", "      | x < 3 -> 4", "      | True -> 5"])
        self.check(["f = let a = 1", "        b | a < 1 = 2 in a + b"],
                   ["f = let", "    a = 1", "    b", "      | a < 1 = 2", "  in a + b"])

    def test_behind_blocks(self):
        self.check(["f = if case a of b -> c", " then case a of b -> c", " else case case a of b -> c", "  of d -> e"],
                   ["f = if case a of", "    b -> c", "  then case a of", "      b -> c",
                    "    else case case a of", "        b -> c", "      of", "          d -> e"])

    def test_behind_guards(self):
        self.check(["f | case a of b -> c", "  = case a of b -> c", " | a = b",
                    "g = case a of", " b | case a of", "        b -> c", "   -> let x = 1 in x", "   | d -> e", " f -> g"],
                   ["f", "  | case a of", "      b -> c", "    = case a of", "        b -> c", "  | a = b",
                    "g = case a of", "    b", "      | case a of", "          b -> c", "        -> let", "            x = 1",
                    "          in x", "      | d -> e", "    f -> g"])

    def test_several_blocks_that_end_at_one_place(self):
        self.check(["f = let x = case a of b -> case c of d -> e", " in let y = let z = 1", "          in case z of 1 -> 2",
                    " in x"],
                   ["f = let", "    x = case a of", "        b -> case c of", "            d -> e", "  in let",
                    "      y = let", "          z = 1", "        in case z of", "            1 -> 2", "    in x"])
        self.check(["f = if case a of b -> case c of d -> e", " then 1 else 2"],
                   ["f = if case a of", "    b -> case c of", "        d -> e", "  then 1 else 2"])

    def test_blocks_in_brackets(self):
        self.check(["f = (case a of", "       b -> c) + g (let x = 1 in x) ((fun y -> case y of 1 -> (2 + 3) * 4) 5) z"],
                   ["f = (case a of", "    b -> c) + g (let", "        x = 1", "      in x) ((fun y -> case y of",
                    "          1 -> (2 + 3) * 4) 5) z"])
        self.check(["f = let x = (case a of", "              b -> c)", "        y = 2 in x"],
                   ["f = let", "    x = case a of", "        b -> c", "    y = 2", "  in x"])
        self.check(["f = let x = (case a of", "               b -> c) d", "        y = 2", "    in x"],
                   ["f = let", "    x = (case a of", "        b -> c) d", "    y = 2", "  in x"])

    def test_one_blank_between_lexemes(self):
        self.check(["f=(a+b)*(c-(d+1))"], ["f = (a + b) * (c - (d + 1))"])

    def test_lines_of_data_between_equations(self):
        self.check(["f 1 = 2", "data A = B", "f 2 = 3"], ["f 1 = 2", "data A = B", "f 2 = 3"])

    def test_long_rows_and_many_of_them(self):
        total = name("longname")
        for _ in range(300):
            total = op("+", total, name("longname"))
        tree = one_def(total)
        rows = printed(tree)
        self.assertEqual(len(rows), 1)
        self.assertEqual(without_places(tree_of(rows)), without_places(tree))
        tree = tuple(("def", P, word + other, ((P, (), ((None, A),)),)) for word in "abcdefgh" for other in "abcdefghijklmnopqrst")
        self.assertEqual(len(printed(tree)), 160)
        self.assertEqual(without_places(tree_of(printed(tree))), tuple(without_places(line) for line in tree))

    def test_deep_trees(self):
        for wrap in (lambda e: ("fun", P, ((P, "y"),), e), lambda e: ("if", P, A, B, e), lambda e: ("call", P, e, (A,)),
                     lambda e: ("let", P, (("def", P, "y", ((P, (), ((None, e),)),)),), B),
                     lambda e: ("case", P, e, ((P, ("any", P), ((None, B),)),)), lambda e: op("-", A, e)):
            e = A
            for _ in range(400):
                e = wrap(e)
            rows = printed(one_def(e))
            self.assertEqual(printed(tree_of(rows)), rows)


class Random(unittest.TestCase):

    def test_grown_trees(self):
        for seed in range(150):
            chance = random.Random(seed)
            tree = Grower(chance, chance.choice([2, 3, 4])).tree(chance.choice([1, 2, 3]))
            if chance.random() < 0.3:
                tree = bent(chance, tree)
            self.check(tree, seed)

    def test_sentences(self):
        for seed in range(300):
            chance = random.Random(seed)
            words = sentence(chance, "text", chance.choice([6, 9, 12]))
            text = Setter(chance).set_words(words)
            self.check(tree_of(text), seed)

    def check(self, tree, seed):
        with self.subTest(seed=seed):
            before = repr(tree)
            rows = printed(tree)
            self.assertEqual(repr(tree), before)
            self.assertEqual(printed(tree), rows)
            again = tree_of(rows)
            self.assertEqual(without_places(again), without_places(tree))
            self.assertEqual(printed(again), rows)
            self.assertEqual(rows, slow_rows(rows))

    def test_no_brackets_to_spare(self):
        for seed in range(60):
            chance = random.Random(seed)
            tree = Grower(chance, 3).tree(2)
            rows = printed(tree)
            found = brackets(rows)
            for (row, column), (last_row, last_column) in chance.sample(found, min(4, len(found))):
                other = list(rows)
                other[row] = other[row][:column] + " " + other[row][column + 1:]
                other[last_row] = other[last_row][:last_column] + " " + other[last_row][last_column + 1:]
                try:
                    self.assertNotEqual(without_places(tree_of(other)), without_places(tree))
                except ValueError:
                    pass


def brackets(rows):
    open_ones, told = [], []
    for place, _, word in lexemes(rows):
        if word == "(":
            open_ones.append((place[0] - 1, place[1] - 1))
        if word == ")":
            told.append((open_ones.pop(), (place[0] - 1, place[1] - 1)))
    return told


def slow_rows(rows):
    """Tells the rows that [9] wants of the lexemes and marks of a text, by these alone."""
    told, row, rows_of_blocks, blanks = [], [], [], 0
    ended, opened = None, False
    # Of each block, the blanks of its let's or of's row; guards are told by | where no data stands.
    in_data = False
    for _, sort, word in laid(rows):
        if sort == "mark":
            if word == "open":
                rows_of_blocks.append(blanks)
                opened = True
            elif word == "shut":
                ended = rows_of_blocks.pop()
            else:
                opened = True
            continue
        start = None
        if opened:
            start = rows_of_blocks[-1] + 4 if len(rows_of_blocks) > 1 else 0
            in_data = len(rows_of_blocks) == 1 and word == "data"
        elif word == "|" and not in_data:
            start = rows_of_blocks[-1] + 6 if len(rows_of_blocks) > 1 else 2
        elif ended is not None and word != ")":
            start = ended + 2
        if start is not None:
            if row:
                told.append(" " * blanks + row[0])
            row, blanks = [], start
        if row:
            row[0] += word if row[0].endswith("(") or word == ")" else " " + word
        else:
            row = [word]
        ended, opened = None, False
    return told + [" " * blanks + row[0]]


class Led(unittest.TestCase):

    def test_the_same_laid_out_otherwise(self):
        one = ["f x = let a = 1", "          b = 2", "      in a"]
        other = ["", " f", "  x = let", "   a = 1", "   b", "     =", "     2 in a -- f"]
        self.assertEqual(led(one, other), dict(zip([place for place, _, _ in lexemes(one)],
                                                   [place for place, _, _ in lexemes(other)])))
        self.assertEqual(led(one, other)[(1, 1)], (2, 2))
        self.assertEqual(led(other, one)[(7, 11)], (3, 10))

    def test_itself(self):
        self.assertEqual(led(["a = (1)"], ["a = (1)"]), {(1, column): (1, column) for column in (1, 3, 5, 6, 7)})

    def test_other_lexemes(self):
        self.assertIsNone(led(["a = 1"], ["a = 1 2"]))
        self.assertIsNone(led(["a = 1 2"], ["a = 1"]))
        self.assertIsNone(led(["a = 1"], ["b = 1"]))
        self.assertIsNone(led(["a"], ["A"]))

    def test_other_marks(self):
        self.assertIsNone(led(["a = 1", "b = 2"], ["a = 1", " b = 2"]))
        self.assertIsNone(led(["a = case b of c -> d", " e"], ["a = case b of c -> d", "                e"]))
        self.assertIsNone(led(["let", " a", " c"], ["let", " a", "   c"]))

    def test_texts_that_nothing_reads(self):
        self.assertEqual(led([") 1"], ["", "  )", "    1"]), {(1, 1): (2, 3), (1, 3): (3, 5)})

    def test_nothing(self):
        self.assertEqual(led([], []), {})
        self.assertEqual(led([], ["", " -- a"]), {})
        self.assertIsNone(led([], ["a"]))

    def test_no_sign(self):
        self.assertEqual(refusal(self, NoSign, led, ["a ?"], ["b"]).place, (1, 3))
        self.assertEqual(refusal(self, NoSign, led, ["a"], ["", "?"]).place, (2, 1))
        self.assertEqual(refusal(self, NoSign, led, ["a ?"], ["?"]).place, (1, 3))
        self.assertEqual(refusal(self, NoSign, led, ["a", "?"], ["b", " ?"]).place, (2, 1))

    def test_by_names_new_and_again(self):
        one, other = ["a = 1"], [" a = 1"]
        told = led(one=one, other=other)
        told.clear()
        self.assertEqual(led(one, other), {(1, 1): (1, 2), (1, 3): (1, 4), (1, 5): (1, 6)})
        self.assertEqual((one, other), (["a = 1"], [" a = 1"]))
        rows = printed(tree=tree_of(one))
        rows.append("b")
        self.assertEqual(printed(tree_of(one)), ["a = 1"])

    def test_printed_texts_lead_to_their_own(self):
        for seed in range(40):
            rows = printed(Grower(random.Random(seed), 3).tree(2))
            shifted = ["", *["  " + row + " -- more" for row in rows]]
            self.assertEqual(led(rows, shifted),
                             {(row, column): (row + 1, column + 2) for (row, column), _, _ in lexemes(rows)})


if __name__ == "__main__":
    unittest.main()
