import random
import unittest

from slumberway.lexemes import lexemes
from slumberway.reader import tree_of
from tests.helper import Setter, sentence


def expr(row):
    """Tells the tree of an expression, that begins at column 5 of row 1."""
    ((_, _, _, ((_, _, ((_, told),)),)),) = tree_of(["f = " + row])
    return told


def pattern(row):
    """Tells the tree of a pattern, that begins at column 3 of row 1."""
    ((_, _, _, ((_, (told,), _),)),) = tree_of(["f " + row + " = 0"])
    return told


def choice(row):
    """Tells the tree of a choice, that begins at column 15 of row 1."""
    _, _, _, (told,) = expr("case x of " + row)
    return told


def num(column, n, row=1):
    return ("num", (row, column), n)


def name(column, word, row=1):
    return ("name", (row, column), word)


class Datas(unittest.TestCase):
    def test_data(self):
        self.assertEqual(tree_of(["data L a bb = Nil | Cons a (L a bb)"]), (
            ("data", (1, 1), "L", (((1, 8), "a"), ((1, 10), "bb")), (
                ((1, 15), "Nil", ()),
                ((1, 21), "Cons", (
                    ("letter", (1, 26), "a"),
                    ("kind", (1, 29), "L", (("letter", (1, 31), "a"), ("letter", (1, 33), "bb"))))))),))

    def test_one_made_without_letters(self):
        self.assertEqual(tree_of(["  data", "    Unit", "    = U"]),
                         (("data", (1, 3), "Unit", (), (((3, 7), "U", ()),)),))

    def kind(self, row):
        ((_, _, _, _, ((_, _, (told,)),)),) = tree_of(["data D = M " + row])
        return told

    def test_kinds(self):
        a, b, c = ("letter", (1, 13), "a"), ("letter", (1, 18), "b"), ("letter", (1, 23), "c")
        self.assertEqual(self.kind("a"), ("letter", (1, 12), "a"))
        self.assertEqual(self.kind("Num"), ("kind", (1, 12), "Num", ()))
        self.assertEqual(self.kind("(a)"), a)
        self.assertEqual(self.kind("((Num))"), ("kind", (1, 14), "Num", ()))
        self.assertEqual(self.kind("(a -> b)"), ("to", (1, 15), a, b))
        self.assertEqual(self.kind("(a -> b -> c)"), ("to", (1, 15), a, ("to", (1, 20), b, c)))
        self.assertEqual(self.kind("((a -> b) -> c)"),
                         ("to", (1, 22), ("to", (1, 16), ("letter", (1, 14), "a"), ("letter", (1, 19), "b")),
                          ("letter", (1, 25), "c")))
        self.assertEqual(self.kind("(L a (M b) N)"), ("kind", (1, 13), "L", (
            ("letter", (1, 15), "a"), ("kind", (1, 18), "M", (("letter", (1, 20), "b"),)),
            ("kind", (1, 23), "N", ()))))
        self.assertEqual(self.kind("(L a -> M)"), ("to", (1, 17), ("kind", (1, 13), "L", (("letter", (1, 15), "a"),)),
                                                   ("kind", (1, 20), "M", ())))


class Defs(unittest.TestCase):
    def test_one_equation(self):
        self.assertEqual(tree_of(["f = 1"]), (("def", (1, 1), "f", (((1, 1), (), ((None, num(5, 1)),)),)),))

    def test_several_equations(self):
        self.assertEqual(tree_of(["f 0 = 1", "f a = 2", "  ", "f b c = 3"]), (
            ("def", (1, 1), "f", (
                ((1, 1), (num(3, 0),), ((None, num(7, 1)),)),
                ((2, 1), (("bind", (2, 3), "a"),), ((None, num(7, 2, 2)),)),
                ((4, 1), (("bind", (4, 3), "b"), ("bind", (4, 5), "c")), ((None, num(9, 3, 4)),)))),))

    def test_several_without_patterns(self):
        told = tree_of(["f = 1", "f = 2"])
        self.assertEqual(told, (("def", (1, 1), "f", (
            ((1, 1), (), ((None, num(5, 1)),)), ((2, 1), (), ((None, num(5, 2, 2)),)))),))

    def test_only_those_straight_behind_one_another(self):
        told = tree_of(["f = 1", "g = 2", "f = 3", "f = 4", "data A = A", "f = 5"])
        self.assertEqual([(line[0], line[1], line[2]) for line in told], [
            ("def", (1, 1), "f"), ("def", (2, 1), "g"), ("def", (3, 1), "f"), ("data", (5, 1), "A"),
            ("def", (6, 1), "f")])
        self.assertEqual([place for place, _, _ in told[2][3]], [(3, 1), (4, 1)])

    def test_guards(self):
        self.assertEqual(tree_of(["f a | a = 1", "    | 2 = 3", "f b = 4"]), (
            ("def", (1, 1), "f", (
                ((1, 1), (("bind", (1, 3), "a"),),
                 ((name(7, "a"), num(11, 1)), (num(7, 2, 2), num(11, 3, 2)))),
                ((3, 1), (("bind", (3, 3), "b"),), ((None, num(7, 4, 3)),)))),))

    def test_one_guard(self):
        self.assertEqual(tree_of(["f | a = 1"]), (
            ("def", (1, 1), "f", (((1, 1), (), ((name(5, "a"), num(9, 1)),)),)),))

    def test_a_data_between(self):
        self.assertEqual([line[:3] for line in tree_of(["data A = A", "f = 1", "data B = B"])],
                         [("data", (1, 1), "A"), ("def", (2, 1), "f"), ("data", (3, 1), "B")])


class Patterns(unittest.TestCase):
    def test_leafs(self):
        self.assertEqual(pattern("_"), ("any", (1, 3)))
        self.assertEqual(pattern("ab"), ("bind", (1, 3), "ab"))
        self.assertEqual(pattern("120"), ("num", (1, 3), 120))
        self.assertEqual(pattern("Nil"), ("made", (1, 3), "Nil", ()))

    def test_brackets_leave_nothing(self):
        self.assertEqual(pattern("(_)"), ("any", (1, 4)))
        self.assertEqual(pattern("((ab))"), ("bind", (1, 5), "ab"))
        self.assertEqual(pattern("( 0 )"), ("num", (1, 5), 0))
        self.assertEqual(pattern("(Nil)"), ("made", (1, 4), "Nil", ()))
        self.assertEqual(pattern("(((Cons x)))"), ("made", (1, 6), "Cons", (("bind", (1, 11), "x"),)))

    def test_parts(self):
        self.assertEqual(pattern("(Cons x (Cons _ Nil) 1)"), ("made", (1, 4), "Cons", (
            ("bind", (1, 9), "x"),
            ("made", (1, 12), "Cons", (("any", (1, 17)), ("made", (1, 19), "Nil", ()))),
            ("num", (1, 24), 1))))

    def test_leafs_beside_one_another(self):
        ((_, _, _, ((_, told, _),)),) = tree_of(["f A b (C d) _ = 0"])
        self.assertEqual(told, (("made", (1, 3), "A", ()), ("bind", (1, 5), "b"),
                                ("made", (1, 8), "C", (("bind", (1, 10), "d"),)), ("any", (1, 13))))


class Atoms(unittest.TestCase):
    def test_each(self):
        self.assertEqual(expr("x"), ("name", (1, 5), "x"))
        self.assertEqual(expr("Xy"), ("maker", (1, 5), "Xy"))
        self.assertEqual(expr("0"), ("num", (1, 5), 0))
        self.assertEqual(expr("123456789012345678901234567890"),
                         ("num", (1, 5), 123456789012345678901234567890))

    def test_brackets_leave_nothing(self):
        self.assertEqual(expr("(x)"), ("name", (1, 6), "x"))
        self.assertEqual(expr("((Xy))"), ("maker", (1, 7), "Xy"))
        self.assertEqual(expr("( 7 )"), ("num", (1, 7), 7))


class Calls(unittest.TestCase):
    def test_places(self):
        self.assertEqual(expr("g x 1"), ("call", (1, 5), name(5, "g"), (name(7, "x"), num(9, 1))))
        self.assertEqual(expr("A x"), ("call", (1, 5), ("maker", (1, 5), "A"), (name(7, "x"),)))
        self.assertEqual(expr("1 x"), ("call", (1, 5), num(5, 1), (name(7, "x"),)))

    def test_the_first_atoms_bracket_counts(self):
        self.assertEqual(expr("(g) x"), ("call", (1, 5), name(6, "g"), (name(9, "x"),)))
        self.assertEqual(expr("((g)) x"), ("call", (1, 5), name(7, "g"), (name(11, "x"),)))

    def test_a_bracket_around_the_call_does_not(self):
        self.assertEqual(expr("(g x)"), ("call", (1, 6), name(6, "g"), (name(8, "x"),)))
        self.assertEqual(expr("((g) x)"), ("call", (1, 6), name(7, "g"), (name(10, "x"),)))

    def test_a_call_of_a_call(self):
        self.assertEqual(expr("(g x) y"),
                         ("call", (1, 5), ("call", (1, 6), name(6, "g"), (name(8, "x"),)), (name(11, "y"),)))
        self.assertEqual(expr("((g x) y) z"), ("call", (1, 5), (
            "call", (1, 6), ("call", (1, 7), name(7, "g"), (name(9, "x"),)), (name(12, "y"),)), (name(15, "z"),)))

    def test_a_call_of_other_things(self):
        self.assertEqual(expr("(fun a -> a) x"), ("call", (1, 5), (
            "fun", (1, 6), (((1, 10), "a"),), name(15, "a")), (name(18, "x"),)))
        self.assertEqual(expr("(a + b) x"), ("call", (1, 5), (
            "op", (1, 8), "+", name(6, "a"), name(10, "b")), (name(13, "x"),)))

    def test_arguments_in_brackets(self):
        self.assertEqual(expr("g (h x) (y)"), ("call", (1, 5), name(5, "g"), (
            ("call", (1, 8), name(8, "h"), (name(10, "x"),)), name(14, "y"))))

    def test_eight_arguments(self):
        self.assertEqual(expr("g a b c d e f g h")[3],
                         tuple(name(7 + 2 * k, word) for k, word in enumerate("abcdefgh")))


class Ops(unittest.TestCase):
    def test_each_sign(self):
        for sign in ("+", "-", "*", "<", "=="):
            self.assertEqual(expr("1 " + sign + " 2"), ("op", (1, 7), sign, num(5, 1), num(8 + len(sign), 2)))

    def test_from_the_left(self):
        self.assertEqual(expr("1 - 2 - 3"), ("op", (1, 11), "-", ("op", (1, 7), "-", num(5, 1), num(9, 2)), num(13, 3)))
        self.assertEqual(expr("1 * 2 * 3"), ("op", (1, 11), "*", ("op", (1, 7), "*", num(5, 1), num(9, 2)), num(13, 3)))
        self.assertEqual(expr("1 - 2 + 3 - 4"), ("op", (1, 15), "-", (
            "op", (1, 11), "+", ("op", (1, 7), "-", num(5, 1), num(9, 2)), num(13, 3)), num(17, 4)))

    def test_products_bind_closer(self):
        self.assertEqual(expr("1 + 2 * 3"), ("op", (1, 7), "+", num(5, 1), ("op", (1, 11), "*", num(9, 2), num(13, 3))))
        self.assertEqual(expr("1 * 2 + 3"), ("op", (1, 11), "+", ("op", (1, 7), "*", num(5, 1), num(9, 2)), num(13, 3)))
        self.assertEqual(expr("1 < 2 + 3"), ("op", (1, 7), "<", num(5, 1), ("op", (1, 11), "+", num(9, 2), num(13, 3))))
        self.assertEqual(expr("1 - 2 == 3"),
                         ("op", (1, 11), "==", ("op", (1, 7), "-", num(5, 1), num(9, 2)), num(14, 3)))

    def test_calls_bind_closest(self):
        self.assertEqual(expr("g x * h y"), ("op", (1, 9), "*", ("call", (1, 5), name(5, "g"), (name(7, "x"),)),
                                             ("call", (1, 11), name(11, "h"), (name(13, "y"),))))

    def test_brackets(self):
        self.assertEqual(expr("1 - (2 - 3)"),
                         ("op", (1, 7), "-", num(5, 1), ("op", (1, 12), "-", num(10, 2), num(14, 3))))
        self.assertEqual(expr("(1 < 2) == (3)"),
                         ("op", (1, 13), "==", ("op", (1, 8), "<", num(6, 1), num(10, 2)), num(17, 3)))
        self.assertEqual(expr("(1 + 2)"), ("op", (1, 8), "+", num(6, 1), num(10, 2)))


class LongerExpressions(unittest.TestCase):
    def test_fun(self):
        self.assertEqual(expr("fun a b -> a"), ("fun", (1, 5), (((1, 9), "a"), ((1, 11), "b")), name(16, "a")))
        self.assertEqual(expr("(fun a -> 1)"), ("fun", (1, 6), (((1, 10), "a"),), num(15, 1)))

    def test_a_funs_body_goes_as_far_as_may_be(self):
        self.assertEqual(expr("fun a -> fun b -> 1 + 2"), ("fun", (1, 5), (((1, 9), "a"),), (
            "fun", (1, 14), (((1, 18), "b"),), ("op", (1, 25), "+", num(23, 1), num(27, 2)))))

    def test_if(self):
        self.assertEqual(expr("if a then 1 else 2"), ("if", (1, 5), name(8, "a"), num(15, 1), num(22, 2)))
        self.assertEqual(expr("(if a then (1) else 2)"), ("if", (1, 6), name(9, "a"), num(17, 1), num(25, 2)))

    def test_an_else_goes_to_the_last_if(self):
        self.assertEqual(expr("if a then if b then 1 else 2 else 3"), ("if", (1, 5), name(8, "a"), (
            "if", (1, 15), name(18, "b"), num(25, 1), num(32, 2)), num(39, 3)))

    def test_let(self):
        self.assertEqual(expr("let x = 1 in x"), (
            "let", (1, 5), (("def", (1, 9), "x", (((1, 9), (), ((None, num(13, 1)),)),)),), name(18, "x")))
        self.assertEqual(expr("(let x = 1 in (x))"), (
            "let", (1, 6), (("def", (1, 10), "x", (((1, 10), (), ((None, num(14, 1)),)),)),), name(20, "x")))

    def test_a_lets_defs(self):
        ((_, _, _, ((_, _, ((_, told),)),)),) = tree_of(
            ["f =", " let", "  g 0 = 1", "  g 1 = 2", "  h = 3", "  g = 4", " in", "  5"])
        self.assertEqual(told, ("let", (2, 2), (
            ("def", (3, 3), "g", (((3, 3), (num(5, 0, 3),), ((None, num(9, 1, 3)),)),
                                  ((4, 3), (num(5, 1, 4),), ((None, num(9, 2, 4)),)))),
            ("def", (5, 3), "h", (((5, 3), (), ((None, num(7, 3, 5)),)),)),
            ("def", (6, 3), "g", (((6, 3), (), ((None, num(7, 4, 6)),)),))), num(3, 5, 8)))

    def test_a_guarded_def_in_a_let(self):
        told = expr("let g a | a = 1 | 2 = 3 in 4")
        self.assertEqual(told[2], (("def", (1, 9), "g", (((1, 9), (("bind", (1, 11), "a"),), (
            (name(15, "a"), num(19, 1)), (num(23, 2), num(27, 3)))),)),))

    def test_lets_within_lets(self):
        self.assertEqual(expr("let x = let y = 1 in y in let z = 2 in x"), (
            "let", (1, 5),
            (("def", (1, 9), "x", (((1, 9), (), ((None, (
                "let", (1, 13), (("def", (1, 17), "y", (((1, 17), (), ((None, num(21, 1)),)),)),),
                name(26, "y"))),)),)),),
            ("let", (1, 31), (("def", (1, 35), "z", (((1, 35), (), ((None, num(39, 2)),)),)),), name(44, "x"))))

    def test_case(self):
        ((_, _, _, ((_, _, ((_, told),)),)),) = tree_of(["f = case x of", "  A -> 1", "  _ -> 2"])
        self.assertEqual(told, ("case", (1, 5), name(10, "x"), (
            ((2, 3), ("made", (2, 3), "A", ()), ((None, num(8, 1, 2)),)),
            ((3, 3), ("any", (3, 3)), ((None, num(8, 2, 3)),)))))
        self.assertEqual(expr("(case x of a -> 1)")[:2], ("case", (1, 6)))

    def test_choices(self):
        self.assertEqual(choice("a -> 1"), ((1, 15), ("bind", (1, 15), "a"), ((None, num(20, 1)),)))
        self.assertEqual(choice("A b -> 1"),
                         ((1, 15), ("made", (1, 15), "A", (("bind", (1, 17), "b"),)), ((None, num(22, 1)),)))
        self.assertEqual(choice("7 -> 1"), ((1, 15), num(15, 7), ((None, num(20, 1)),)))

    def test_a_choices_place_is_that_of_its_bracket(self):
        self.assertEqual(choice("(a) -> 1"), ((1, 15), ("bind", (1, 16), "a"), ((None, num(22, 1)),)))
        self.assertEqual(choice("((A b)) -> 1"),
                         ((1, 15), ("made", (1, 17), "A", (("bind", (1, 19), "b"),)), ((None, num(26, 1)),)))

    def test_a_choices_guards(self):
        self.assertEqual(choice("a | b -> 1 | 2 -> 3"), ((1, 15), ("bind", (1, 15), "a"), (
            (name(19, "b"), num(24, 1)), (num(28, 2), num(33, 3)))))
        self.assertEqual(choice("a | b -> 1"), ((1, 15), ("bind", (1, 15), "a"), ((name(19, "b"), num(24, 1)),)))
        self.assertEqual(choice("a | fun b -> c -> 1"), ((1, 15), ("bind", (1, 15), "a"), (
            (("fun", (1, 19), (((1, 23), "b"),), name(28, "c")), num(33, 1)),)))

    def test_a_case_in_a_choice(self):
        ((_, _, _, ((_, _, ((_, told),)),)),) = tree_of(
            ["f = case a of", "  A -> case b of", "    B -> 1", "  C -> 2"])
        self.assertEqual([place for place, _, _ in told[3]], [(2, 3), (4, 3)])
        self.assertEqual([place for place, _, _ in told[3][0][2][0][1][3]], [(3, 5)])


def placed(tree):
    """Tells (place, word) of all that a tree tells, in the order of the text, but for -> and its calls and choices.

    A data's MAKER, which has no place in the tree, has None.
    """
    told = []
    todo = list(reversed(tree))
    while todo:
        thing = todo.pop()
        if len(thing) == 2 and not isinstance(thing[0], str):
            told.append(thing)
        elif thing[0] == "any":
            told.append((thing[1], "_"))
        else:
            todo.extend(reversed(parts(*thing)))
    return told


def parts(sort, place, one, *rest):
    """Tells the parts of a tuple of a tree in the order of the text, among them (place, word) of its own words."""
    if sort == "data":
        letters, mades = rest
        return [(place, sort), (None, one), *letters,
                *[part for spot, maker, kinds in mades for part in ((spot, maker), *kinds)]]
    if sort == "def":
        return [part for spot, patterns, sides in rest[0] for part in ((spot, one), *patterns, *sided(sides))]
    if sort == "to":
        return [one, *rest]
    if sort == "call":
        return [one, *rest[0]]
    if sort == "op":
        return [rest[0], (place, one), rest[1]]
    if sort in ("fun", "let"):
        return [(place, sort), *one, *rest]
    if sort == "if":
        return [(place, sort), one, *rest]
    if sort == "case":
        return [(place, sort), one,
                *[part for _, pattern, sides in rest[0] for part in (pattern, *sided(sides))]]
    return [(place, str(one)), *(rest[0] if rest else ())]


def sided(sides):
    return [part for pair in sides for part in pair if part is not None]


def tuples_within(tree):
    told = []
    todo = list(tree)
    while todo:
        thing = todo.pop()
        if isinstance(thing, tuple):
            told.append(thing)
            todo.extend(thing)
    return told


TOLD_WORDS = ("data", "fun", "let", "if", "case", "_", "+", "-", "*", "<", "==")


class Places(unittest.TestCase):
    def texts(self, seed):
        chance = random.Random(seed)
        for number in range(300):
            yield Setter(chance).set_words(sentence(chance, "text", 4 + number // 20))

    def test_all_that_leaves_a_word_is_told_once_at_its_place(self):
        for text in self.texts(9):
            want = [(place, word) for place, sort, word in lexemes(text)
                    if sort in ("name", "maker", "number") or word in TOLD_WORDS]
            got = placed(tree_of(text))
            self.assertEqual([word for _, word in got], [word for _, word in want], text)
            for (place, _), (right, _) in zip(got, want):
                self.assertIn(place, (right, None), text)

    def test_a_calls_and_a_choices_place_is_that_of_its_first_lexeme(self):
        seen = 0
        for text in self.texts(10):
            told = lexemes(text)
            spots = {place: spot for spot, (place, _, _) in enumerate(told)}
            for thing in tuples_within(tree_of(text)):
                found = [(thing[1], thing)] if thing[:1] == ("call",) else []
                if thing[:1] == ("case",):
                    found = [(place, pattern) for place, pattern, _ in thing[3]]
                for place, part in found:
                    seen += 1
                    first = placed((part,))[0][0]
                    self.assertLessEqual(place, first, text)
                    brackets = told[spots[place]:spots[first]]
                    self.assertEqual([word for _, _, word in brackets], ["("] * len(brackets), text)
        self.assertGreater(seen, 1000)

    def test_an_arrows_place_is_that_of_its_sign(self):
        seen = 0
        for text in self.texts(11):
            words = {place: word for place, _, word in lexemes(text)}
            for thing in tuples_within(tree_of(text)):
                if thing[:1] == ("to",):
                    seen += 1
                    self.assertEqual(words[thing[1]], "->", text)
        self.assertGreater(seen, 50)


if __name__ == "__main__":
    unittest.main()
