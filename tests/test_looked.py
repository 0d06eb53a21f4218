"""looked_at: what is told twice, counts of patterns, what isn't there, counts of parts (10)."""

import random
import unittest

from slumberway.errors import Counts, NoReading, NoSign, Parts, SlumberError, Twice, Unknown
from slumberway.looked import looked_at
from slumberway.printer import printed
from slumberway.reader import tree_of
from tests.grown import Grower, bent
from tests.helper import refusal

FIELDS = {Twice: ("later", "earlier"), Counts: ("place",), Unknown: ("place", "word"), Parts: ("place",)}


class Looked(unittest.TestCase):

    def fine(self, *text):
        self.assertIsNone(looked_at(list(text)))

    def refused(self, text, kind, *fields):
        error = refusal(self, kind, looked_at, text)
        self.assertEqual(tuple(getattr(error, field) for field in FIELDS[kind]), fields)


class Fine(Looked):

    def test_ordinary_texts(self):
        self.fine("data List a = Nil | Cons a (List a)", "length Nil = 0", "length (Cons _ r) = 1 + length r")
        self.fine("x = 1")
        self.fine("data A = A")

    def test_what_is_there_ahead(self):
        self.fine("f True = False", "data A = B Num Truth (Num -> Truth)")

    def test_a_kind_and_a_maker_of_one_word(self):
        self.fine("data Pair a b = Pair a b", "data Nil = Cons", "data Cons = Nil", "f (Pair Nil x) = Cons")
        self.fine("data True = Num True", "f (Num x) = Num True")

    def test_the_same_letter_in_two_datas(self):
        self.fine("data A a = B a", "data C a = D a (A a)")

    def test_used_ahead(self):
        self.fine("f (B x) = g x", "g x = C f", "data A a = B (D a)", "data D a = C a")
        self.fine("x = let a = b", "        b = c", "        c = a", "    in b")

    def test_inner_names_hide_outer_ones(self):
        self.fine("x x = fun x -> let x = fun x -> x in case x of x -> x")
        self.fine("f f = f", "g f x = case f of f -> case x of x -> fun f -> f x")
        self.fine("f x = let x = x in x", "x = 1")
        self.fine("a = let b = 1 in b", "c = let b = 1 in b")

    def test_the_same_name_in_two_rules(self):
        self.fine("f x y = x", "f y x = y", "g = case f of x -> x", "             ", "h x | x = x | x = x")
        self.fine("f x = case x of y -> y", "                y -> y")

    def test_any_is_no_name(self):
        self.fine("f _ _ = 1")

    def test_defs_of_several_equations(self):
        self.fine("f 1 x = x", "f _ _ = 2", "y = 1", "y = 2")

    def test_names_beside_guards(self):
        self.fine("f x | x == g = x | g = let g = x in g", "g = 1")

    def test_asked_again_by_name_and_nothing_changed(self):
        text = ["f x = x"]
        self.assertIsNone(looked_at(text=text))
        self.assertIsNone(looked_at(text))
        self.assertEqual(text, ["f x = x"])
        text = ["f x = y"]
        self.refused(text, Unknown, (1, 7), "y")
        self.refused(text, Unknown, (1, 7), "y")


class Refused(Looked):

    def test_ahead_of_all(self):
        self.assertEqual(refusal(self, NoSign, looked_at, ["x = x x = ?"]).place, (1, 11))
        error = refusal(self, NoReading, looked_at, ["x = y = 1"])
        self.assertEqual(error.place, (1, 7))
        self.assertIn("+", error.wants)

    def test_kinds_twice(self):
        self.refused(["data A = B", "x = 1", "data A = C"], Twice, (3, 1), (1, 1))
        self.refused(["data A = B", " ", "data Num = C"], Twice, (3, 1), None)
        self.refused(["data Truth = C"], Twice, (1, 1), None)
        self.refused(["data A = B", "data A = C", "data A = D"], Twice, (2, 1), (1, 1))

    def test_makers_twice(self):
        self.refused(["data A = B | C | B"], Twice, (1, 18), (1, 10))
        self.refused(["data A = B | C", "data D = C Num"], Twice, (2, 10), (1, 14))
        self.refused(["data A = B | True"], Twice, (1, 14), None)
        self.refused(["data A = False"], Twice, (1, 10), None)

    def test_letters_twice(self):
        self.refused(["data A a b c b = B"], Twice, (1, 14), (1, 10))

    def test_names_twice_in_a_block_or_at_the_top(self):
        self.refused(["f 1 = 1", "g = 2", "f 2 = 2"], Twice, (3, 1), (1, 1))
        self.refused(["f 1 = 1", "data A = B", "f 2 = 2"], Twice, (3, 1), (1, 1))
        self.refused(["x = let a = 1", "        b = 1", "        a = 2", "    in a"], Twice, (3, 9), (1, 9))
        self.refused(["f x = let a = 1", "          b | let c = 1", "                  d = 1", "                  c = 1",
                      "              in True = 1", "       in a"], Twice, (4, 19), (2, 19))

    def test_names_twice_in_a_fun(self):
        self.refused(["f = fun a b a -> 1"], Twice, (1, 13), (1, 9))

    def test_names_twice_in_patterns(self):
        self.refused(["data P = P Num Num", "f x (P y x) = 1"], Twice, (2, 10), (2, 3))
        self.refused(["f x _ _ x = 1"], Twice, (1, 9), (1, 3))
        self.refused(["data P = P Num Num", "f = case f of P x x -> 1"], Twice, (2, 19), (2, 17))
        self.refused(["data P = P Num Num", "f = let g 1 = 1", "        g (P x (P y y)) = 1", "    in g"],
                     Twice, (3, 21), (3, 19))

    def test_counts(self):
        self.refused(["f 1 = 1", "f = 2"], Counts, (2, 1))
        self.refused(["f = 1", "f 1 = 2", "f = 1", "f 1 2 = 1"], Counts, (2, 1))
        self.refused(["g = let f 1 = 1", "        f 1 2 = 2", "    in f"], Counts, (2, 9))
        self.refused(["g = let f 1 = 1", "        f 1 2 = 2", "    in f", "h 1 = 2", "h = 1"], Counts, (2, 9))
        self.refused(["f 1 = let f 1 = 1", "          f = 2", "      in f", "f = 1"], Counts, (2, 11))

    def test_unknown_kinds_and_letters(self):
        self.refused(["data A = B C"], Unknown, (1, 12), "C")
        self.refused(["data A = B (Num -> List Num)"], Unknown, (1, 20), "List")
        self.refused(["data A a = B a b"], Unknown, (1, 16), "b")
        self.refused(["data A a = B a", "data C b = D (A (a -> b))"], Unknown, (2, 18), "a")
        self.refused(["data A = B", "data C = D B"], Unknown, (2, 12), "B")

    def test_unknown_makers(self):
        self.refused(["f = Nil"], Unknown, (1, 5), "Nil")
        self.refused(["f Nil = 1"], Unknown, (1, 3), "Nil")
        self.refused(["f (True (Cons 1)) = 1"], Unknown, (1, 10), "Cons")
        self.refused(["f = case 1 of (Box) -> 1"], Unknown, (1, 16), "Box")
        self.refused(["data A = B", "f = A"], Unknown, (2, 5), "A")
        self.refused(["f = Num"], Unknown, (1, 5), "Num")

    def test_unknown_names(self):
        self.refused(["f = x"], Unknown, (1, 5), "x")
        self.refused(["f x = x", "g = x"], Unknown, (2, 5), "x")
        self.refused(["f x = 1", "f _ = x"], Unknown, (2, 7), "x")
        self.refused(["f = (fun x -> x) x"], Unknown, (1, 18), "x")
        self.refused(["f = (let x = 1 in x) + x"], Unknown, (1, 24), "x")
        self.refused(["f = (let x y = 1 in y)"], Unknown, (1, 21), "y")
        self.refused(["f = case x of x -> x"], Unknown, (1, 10), "x")
        self.refused(["f = case 1 of x -> 1", "              _ -> x"], Unknown, (2, 20), "x")
        self.refused(["f = case 1 of", "  x | x -> x", "  _ | x -> 1"], Unknown, (3, 7), "x")
        self.refused(["f = let a x = x", "        b = x", "    in a"], Unknown, (2, 13), "x")
        self.refused(["f x | x = 1 | y = 2"], Unknown, (1, 15), "y")
        self.refused(["f = if 1 then 2 else 3 4 a"], Unknown, (1, 26), "a")

    def test_parts_of_patterns(self):
        self.refused(["data A = B Num", "f B = 1"], Parts, (2, 3))
        self.refused(["data A = B Num", "f = case 1 of B 1 2 -> 1"], Parts, (2, 15))
        self.refused(["f (True 1) = 1"], Parts, (1, 4))
        self.refused(["data A = B Num A", "f (B 1 (B 1)) = 1"], Parts, (2, 9))

    def test_parts_of_kinds(self):
        self.refused(["data A = B (Num Truth)"], Parts, (1, 13))
        self.refused(["data A = B (Truth Num)"], Parts, (1, 13))
        self.refused(["data A a = B A"], Parts, (1, 14))
        self.refused(["data A a b = B (Num -> A a)"], Parts, (1, 24))
        self.refused(["data A = B", "data C = D (A Num)"], Parts, (2, 13))

    def test_makers_in_expressions_may_have_any(self):
        self.fine("data A = B Num", "f = B", "g = B 1 2", "h = True 1")


class Order(Looked):

    def test_the_first_class_goes_first(self):
        parts = "data P = P (Num 1)".replace("1", "Num")
        unknown = "u = v"
        counts = ["c 1 = 1", "c = 1"]
        twice = ["t x x = 1"]
        self.refused([parts, unknown, *counts, *twice], Twice, (5, 5), (5, 3))
        self.refused([parts, unknown, *counts], Counts, (4, 1))
        self.refused([parts, unknown], Unknown, (2, 5), "v")
        self.refused([parts], Parts, (1, 13))

    def test_twice_the_first_by_its_later_place(self):
        self.refused(["f x x = 1", "data Num = B"], Twice, (1, 5), (1, 3))
        self.refused(["data A a a = B | B", "data A = C"], Twice, (1, 10), (1, 8))
        self.refused(["data A a = B | B", "data A = C"], Twice, (1, 16), (1, 12))
        self.refused(["g = fun a b b -> fun a a -> 1", "f = 1", "g = 2"], Twice, (1, 13), (1, 11))
        self.refused(["f = 1", "g = 2", "f = fun x x -> 1"], Twice, (3, 1), (1, 1))
        self.refused(["f = let a = fun x x -> 1", "        b = 1", "        a = 2", "    in 1"], Twice, (1, 19), (1, 17))

    def test_unknown_the_first_by_its_place(self):
        self.refused(["f = g A", "data B = C D"], Unknown, (1, 5), "g")
        self.refused(["f = 1 + A g", "data B = C D"], Unknown, (1, 9), "A")
        self.refused(["data B = C D d", "f = A"], Unknown, (1, 12), "D")
        self.refused(["data B = C d D", "f = A"], Unknown, (1, 12), "d")
        self.refused(["f Bb = a", "g A = 1"], Unknown, (1, 3), "Bb")
        self.refused(["f = x + y"], Unknown, (1, 5), "x")

    def test_parts_the_first_by_its_place(self):
        self.refused(["f (True 1) = 1", "data A = B (Num Num)"], Parts, (1, 4))
        self.refused(["data A = B (Num Num)", "f (True 1) = 1"], Parts, (1, 13))
        self.refused(["data A = B (Num (Num Num))"], Parts, (1, 13))


def second_look(tree):
    """Tells what looked_at refuses of a tree, as (class, fields), written another way; None where nothing is."""
    faults = {Twice: {}, Counts: {}, Unknown: {}, Parts: {}}
    kinds, makers = {"Num": (None, 0), "Truth": (None, 0)}, {"True": (None, 0), "False": (None, 0)}

    def add(table, word, place, told):
        if word in table:
            faults[Twice][place] = (place, table[word][0] if isinstance(told, int) else table[word])
        else:
            table[word] = (place, told) if isinstance(told, int) else place

    for line in tree:
        if line[0] == "data":
            add(kinds, line[2], line[1], len(line[3]))
            letters = {}
            for place, letter in line[3]:
                add(letters, letter, place, None)
            for place, maker, parts in line[4]:
                add(makers, maker, place, len(parts))

    def kind(thing, letters):
        if thing[0] == "to":
            kind(thing[2], letters)
            kind(thing[3], letters)
        elif thing[0] == "letter":
            if thing[2] not in letters:
                faults[Unknown][thing[1]] = (thing[1], thing[2])
        else:
            if thing[2] not in kinds:
                faults[Unknown][thing[1]] = (thing[1], thing[2])
            elif kinds[thing[2]][1] != len(thing[3]):
                faults[Parts][thing[1]] = (thing[1],)
            for part in thing[3]:
                kind(part, letters)

    def maker(thing):
        if thing[2] not in makers:
            faults[Unknown][thing[1]] = (thing[1], thing[2])
        elif thing[0] == "made" and makers[thing[2]][1] != len(thing[3]):
            faults[Parts][thing[1]] = (thing[1],)

    def pattern(thing, names):
        if thing[0] == "bind":
            add(names, thing[2], thing[1], None)
        elif thing[0] == "made":
            maker(thing)
            for part in thing[3]:
                pattern(part, names)

    def rule(patterns, sides, env):
        names = {}
        for one in patterns:
            pattern(one, names)
        for guard, side in sides:
            if guard is not None:
                expr(guard, env | set(names))
            expr(side, env | set(names))

    def defs(found, env):
        names = {}
        for one in found:
            add(names, one[2], one[1], None)
        env = env | set(names)
        for one in found:
            for place, patterns, sides in one[3]:
                if len(patterns) != len(one[3][0][1]):
                    faults[Counts][place] = (place,)
                rule(patterns, sides, env)
        return env

    def expr(e, env):
        if e[0] == "name":
            if e[2] not in env:
                faults[Unknown][e[1]] = (e[1], e[2])
        elif e[0] == "maker":
            maker(e)
        elif e[0] == "call":
            for part in (e[2], *e[3]):
                expr(part, env)
        elif e[0] in ("op", "if"):
            for part in e[2:] if e[0] == "if" else e[3:]:
                expr(part, env)
        elif e[0] == "fun":
            names = {}
            for place, name in e[2]:
                add(names, name, place, None)
            expr(e[3], env | set(names))
        elif e[0] == "let":
            expr(e[3], defs(e[2], env))
        elif e[0] == "case":
            expr(e[2], env)
            for _, one, sides in e[3]:
                rule((one,), sides, env)

    for line in tree:
        if line[0] == "data":
            for _, _, parts in line[4]:
                for part in parts:
                    kind(part, [name for _, name in line[3]])
    defs([line for line in tree if line[0] == "def"], set())
    for refused, found in faults.items():
        if found:
            return refused, found[min(found)]
    return None


class Random(Looked):

    def test_bent_trees(self):
        seen = []
        for seed in range(500):
            chance = random.Random(seed)
            tree = Grower(chance, chance.choice([2, 3])).tree(chance.choice([1, 2, 3]))
            for _ in range(chance.choice([0, 1, 2])):
                tree = bent(chance, tree)
            text = printed(tree)
            for _ in range(chance.choice([0, 0, 1, 3])):
                at = chance.randrange(len(text))
                for one, other in chance.choice([[("Nil", "Cons")], [("Cons", "Pair")], [("x", "y")], [("a ", "c ")],
                                                 [("Color", "List")], [("List a)", "List a a)")],
                                                 [("(Cons ", "(Act ")], [("(Pair ", "(Node ")], [(" b", " x")],
                                                 [(" _ =", " ="), (" 0 =", " =")]]):
                    text[at] = text[at].replace(one, other)
            try:
                tree = tree_of(text)
            except SlumberError:
                continue
            wanted = second_look(tree)
            with self.subTest(seed=seed):
                if wanted is None:
                    self.assertIsNone(looked_at(text))
                    seen.append(None)
                else:
                    self.refused(text, wanted[0], *wanted[1])
                    seen.append(wanted[0])
        for kind in (None, Twice, Counts, Unknown, Parts):
            self.assertGreater(seen.count(kind), 1, kind)

    def test_deep_texts(self):
        for head, tail, last in [("fun x -> ", "", "x"), ("(", ")", "x"), ("if x then x else ", "", "x"),
                                 ("f (", ")", "x"), ("x + ", "", "x")]:
            many = 30 if "(" in head else 400
            rows = ["f x ="] + [" " + head] * many + [" " + last] + [" " + tail] * many
            self.fine(*rows)
            rows[many + 1] = " y"
            self.refused(rows, Unknown, (many + 2, 2), "y")


if __name__ == "__main__":
    unittest.main()
