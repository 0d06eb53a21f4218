"""core: what it makes of texts agrees with the plain reading (14, 15)."""

import random
import unittest

from slumberway.coreparts import parts_in
from slumberway.cores import addresses, program_wrong
from slumberway.coretexts import core_text, read_core
from slumberway.errors import Clash, Counts, Endless, NoReading, NoSign, Parts, Twice, Unknown
from slumberway.kinds import kinds
from slumberway.lexemes import lexemes
from slumberway.making import core
from slumberway.printer import printed
from slumberway.reader import tree_of
from tests.grown import Grower
from tests.helper import refusal
from tests.readings import ByName, Long, Plain

LIST = "data List a = Nil | Cons a (List a)"
PAIR = "data Pair a b = Pair a b"


class Agreeing(unittest.TestCase):

    def agrees(self, text, depths=(0, 1, 20), most=3000):
        """Sets all tops' answers beside one another; tells a dict from them to their answers at depth 20."""
        program = core(text)
        self.assertIsNone(program_wrong(program))
        self.assertEqual(program[0], [place for place, _, _ in lexemes(text)])
        tree = tree_of(text)
        self.assertEqual([x for x, _ in program[2]], [line[2] for line in tree if line[0] == "def"])
        told = {}
        for x, _ in program[2]:
            for depth in depths:
                plain = Plain(tree, most)
                strict = Plain(tree, most, once=True)
                machine = ByName(program, 10 * most)
                try:
                    wanted = plain.answer(x, depth)
                    strict.answer(x, depth)
                except Long:
                    told[x] = ("long",)
                    continue
                self.assertEqual(machine.answer(x, depth), wanted, (x, depth))
                self.assertLessEqual(strict.worked + strict.tried, plain.worked + plain.tried)
                self.assertLessEqual(machine.gone, 10 * (strict.worked + strict.tried))
                told[x] = wanted
        return told

    def answer(self, *rows, x="x"):
        return self.agrees(list(rows))[x]

    def text_of(self, *rows):
        told = self.answer(*rows)
        self.assertEqual(told[0], "told", told)
        return told[1]


class Parts_of_expressions(Agreeing):

    def test_numbers_and_names(self):
        self.assertEqual(self.answer("x = 12"), ("told", "12", [("12", (1, 5))]))
        self.assertEqual(self.answer("y = 12", "x = y"), ("told", "12", [("12", (1, 5))]))
        self.assertEqual(self.text_of("x = 123456789012345678901234567890"), "123456789012345678901234567890")

    def test_makers(self):
        self.assertEqual(self.answer(LIST, "x = Nil"), ("told", "Nil", [("Nil", (2, 5))]))
        self.assertEqual(self.answer(LIST, "x = Cons 1 (Cons 2 Nil)"), (
            "told", "Cons(1, Cons(2, Nil))",
            [("Cons", (2, 5)), ("1", (2, 10)), ("Cons", (2, 13)), ("2", (2, 18)), ("Nil", (2, 20))]))

    def test_makers_with_fewer_arguments(self):
        self.assertEqual(self.answer(LIST, "x = Cons"), ("told", "FUN", [("FUN", (2, 5))]))
        self.assertEqual(self.answer(LIST, "x = Cons (1 + 1)"), ("told", "FUN", [("FUN", (2, 5))]))
        self.assertEqual(self.answer(LIST, "x = (Cons 1) y", "y = Nil"),
                         ("told", "Cons(1, Nil)", [("Cons", (2, 6)), ("1", (2, 11)), ("Nil", (3, 5))]))
        self.assertEqual(self.text_of(LIST, "map f (Cons a r) = Cons (f a) (map f r)", "map f Nil = Nil",
                                      "x = map (Cons 1) (Cons Nil Nil)"), "Cons(Cons(1, Nil), Nil)")
        self.assertEqual(self.text_of("data T = T Num Num Num", "f g = g 2 3", "x = f (T 1)"), "T(1, 2, 3)")
        self.assertEqual(self.text_of("data T = T Num Num Num", "f g = g 1", "y = f T", "x = y 2 3"), "T(1, 2, 3)")

    def test_functions(self):
        self.assertEqual(self.answer("x = fun a -> a"), ("told", "FUN", [("FUN", (1, 5))]))
        self.assertEqual(self.answer("x a = a"), ("told", "FUN", [("FUN", (1, 1))]))
        self.assertEqual(self.answer("f a b = a", "x = f 1"), ("told", "FUN", [("FUN", (1, 1))]))
        self.assertEqual(self.answer("x = (fun a b -> a) 1"), ("told", "FUN", [("FUN", (1, 6))]))
        self.assertEqual(self.answer("f 1 = 2", "f 3 = 4", "x = f"), ("told", "FUN", [("FUN", (1, 1))]))
        self.assertEqual(self.answer("x = let f a = a in f"), ("told", "FUN", [("FUN", (1, 9))]))

    def test_calls(self):
        self.assertEqual(self.text_of("f a b = a - b", "x = f (f 9 1) (f 3 1)"), "6")
        self.assertEqual(self.text_of("f a = fun b -> a - b", "x = f 9 (f 3 1)"), "7")
        self.assertEqual(self.text_of("f a b c = a - b - c", "x = (f 9 1) 2"), "6")
        self.assertEqual(self.text_of("f a b c = a - b - c", "g h = h 1 2", "x = g (f 9)"), "6")
        self.assertEqual(self.text_of("x = (fun a b -> fun c d -> a * b - c * d) 2 3 4 5"), "-14")
        self.assertEqual(self.text_of("f a b c d e f g h = a + b + c + d + e + f + g + h", "x = f 1 2 3 4 5 6 7 8"), "36")
        self.assertEqual(self.text_of("k = f 3", "f a b = a - b", "x = (if 1 < 2 then k else f 1) 2"), "1")

    def test_what_is_not_asked_is_not_worked(self):
        self.assertEqual(self.text_of("f a b = a", "x = f 1 (case 1 of 2 -> 3)"), "1")
        self.assertEqual(self.text_of("f a b = a", "y = y", "x = f 1 y"), "1")
        self.assertEqual(self.text_of("x = let a = a in 2"), "2")
        self.assertEqual(self.text_of("x = if 1 < 2 then 3 else case 1 of 2 -> 3"), "3")
        self.assertEqual(self.text_of("x = case y of z -> 3", "y = y"), "3")
        self.assertEqual(self.text_of(PAIR, "x = case Pair y 1 of Pair _ b -> b", "y = y"), "1")
        self.assertEqual(self.answer(PAIR, "x = Pair y 1", "y = y"), ("long",))

    def test_ops(self):
        self.assertEqual(self.answer("x = 7 - 2 * 5 + 1"), ("told", "-2", [("-2", (1, 15))]))
        self.assertEqual(self.answer("x = 7 < 8"), ("told", "True", [("True", (1, 7))]))
        self.assertEqual(self.answer("x = 8 < 8"), ("told", "False", [("False", (1, 7))]))
        self.assertEqual(self.answer("x = 8 == 8"), ("told", "True", [("True", (1, 7))]))
        self.assertEqual(self.text_of("x = if 7 == 8 then 1 else 2"), "2")

    def test_too_great_numbers(self):
        nines = "9" * 30
        self.assertEqual(self.text_of(f"x = {nines} * {nines}"), str((10 ** 30 - 1) ** 2))
        self.assertEqual(self.answer("y = 1" + "0" * 29, "x = y * y * 100"), ("fault", "great", (2, 11)))
        self.assertEqual(self.answer("y = 1" + "0" * 29, "x = 0 - y * y * 100"), ("fault", "great", (2, 15)))
        self.assertEqual(self.answer("y = 1" + "0" * 29, "x = 0 - y * y * 10 - 1")[0], "told")

    def test_left_ahead_of_right(self):
        self.assertEqual(self.answer("a = case 1 of 2 -> 3", "x = a + (case 4 of 5 -> 6)"), ("fault", "none", (1, 5)))
        self.assertEqual(self.answer("a = case 1 of 2 -> 3", "x = (case 4 of 5 -> 6) < a"), ("fault", "none", (2, 6)))

    def test_lets(self):
        self.assertEqual(self.text_of("x = let a = b + 1", "        b = 2", "        c d = a * d", "    in c b"), "6")
        self.assertEqual(self.text_of("x = let even 0 = True", "        even n = odd (n - 1)", "        odd 0 = False",
                                      "        odd n = even (n - 1)", "    in even 7"), "False")
        self.assertEqual(self.text_of(LIST, "x = let a = Cons 1 b", "        b = Cons 2 Nil", "    in a"),
                         "Cons(1, Cons(2, Nil))")

    def test_names_hidden_by_inner_ones(self):
        self.assertEqual(self.text_of("x = let x = 1 in let y = x in let x = 2 in x * 10 + y"), "21")
        self.assertEqual(self.text_of("f f = f + 1", "x = f 1"), "2")
        self.assertEqual(self.text_of("f a = case a of", "  1 -> a", "  a -> case a + 1 of a -> a * 10", "x = f 2"), "30")
        self.assertEqual(self.text_of("x = (fun a -> (fun a -> a + 1) (a * 2)) 3"), "7")
        self.assertEqual(self.text_of("x = let a = 1", "        f a = a + b", "        b = 10", "    in f 5 + a"), "16")

    def test_lists_without_end(self):
        rows = [LIST, "take 0 _ = Nil", "take n (Cons a r) = Cons a (take (n - 1) r)", "ones = Cons 1 ones",
                "from n = Cons n (from (n + 1))", "zip f (Cons a r) (Cons b s) = Cons (f a b) (zip f r s)"]
        self.assertEqual(self.text_of(*rows, "x = take 3 ones"), "Cons(1, Cons(1, Cons(1, Nil)))")
        self.assertEqual(self.text_of(*rows, "x = take 3 (from 5)"), "Cons(5, Cons(6, Cons(7, Nil)))")
        rows.append("tail (Cons _ r) = r")
        self.assertEqual(self.text_of(*rows, "fibs = Cons 0 (Cons 1 (zip (fun a b -> a + b) fibs (tail fibs)))",
                                      "x = take 6 fibs"), "Cons(0, Cons(1, Cons(1, Cons(2, Cons(3, Cons(5, Nil))))))")
        program = core([LIST, "ones = Cons 1 ones"])
        self.assertEqual(ByName(program, 1000).answer("ones", 2)[1], "Cons(1, Cons(1, Cons(.., ..)))")


class Rules(Agreeing):

    def test_several_equations_in_order(self):
        rows = ["f 1 = 10", "f 2 = 20", "f 1 = 30", "f n = n"]
        for number, wanted in [(1, "10"), (2, "20"), (3, "3")]:
            self.assertEqual(self.text_of(*rows, f"x = f {number}"), wanted)

    def test_nothing_left(self):
        self.assertEqual(self.answer("f 1 = 2", "x = f 3"), ("fault", "none", (1, 1)))
        self.assertEqual(self.answer("", "  f 1 = 2", "  x = f 3"), ("fault", "none", (2, 3)))
        self.assertEqual(self.answer("x = 1 + (case 3 of 1 -> 2)"), ("fault", "none", (1, 10)))
        self.assertEqual(self.answer("x | 1 < 0 = 1"), ("fault", "none", (1, 1)))
        self.assertEqual(self.answer("x = let f 1 = 2 in f 2"), ("fault", "none", (1, 9)))
        self.assertEqual(self.answer("x = case 1 of", "  y | y < 1 -> 1", "    | y == 2 -> 2"), ("fault", "none", (1, 5)))
        self.assertEqual(self.answer(LIST, "f (Cons 1 (Cons 2 Nil)) = 1", "f (Cons 2 _) = 2", "x = f (Cons 1 Nil)"),
                         ("fault", "none", (2, 1)))

    def test_guards_that_fall_through(self):
        rows = ["f n | n < 2 = 1", "    | n < 4 = 2", "f 5 | 1 < 0 = 3", "f 6 = 4", "f n | n == 7 = 5", "f _ = 6"]
        for number, wanted in [(1, "1"), (3, "2"), (5, "6"), (6, "4"), (7, "5"), (8, "6")]:
            self.assertEqual(self.text_of(*rows, f"x = f {number}"), wanted)
        self.assertEqual(self.text_of("x | 1 < 0 = 1", "x | 2 < 0 = 2", "  | 0 < 1 = 3", "x = 4"), "3")

    def test_patterns_within_patterns(self):
        rows = [LIST, PAIR, "f (Cons (Pair 1 a) (Cons (Pair b 7) _)) c = a + b + c", "f (Cons (Pair a 2) _) 3 = a",
                "f (Cons (Pair _ b) r) c = f r b", "f Nil c = c"]
        for told, wanted in [("(Cons (Pair 1 2) (Cons (Pair 3 7) Nil)) 4", "9"),
                             ("(Cons (Pair 1 2) (Cons (Pair 3 4) Nil)) 3", "1"),
                             ("(Cons (Pair 1 2) Nil) 4", "2"),
                             ("(Cons (Pair 5 2) Nil) 3", "5"),
                             ("(Cons (Pair 5 6) (Cons (Pair 1 8) (Cons (Pair 2 7) Nil))) 3", "16"),
                             ("Nil 3", "3")]:
            self.assertEqual(self.text_of(*rows, f"x = f {told}"), wanted)

    def test_patterns_are_tried_from_the_left(self):
        none = "(case 1 of 2 -> 3)"
        self.assertEqual(self.text_of("f 1 2 = 1", "f _ _ = 2", f"x = f 3 {none}"), "2")
        self.assertEqual(self.answer("f 1 2 = 1", "f _ _ = 2", f"x = f {none} 3"), ("fault", "none", (3, 8)))
        self.assertEqual(self.text_of(PAIR, "f (Pair 1 2) 3 = 1", "f _ _ = 2", f"x = f (Pair 1 4) {none}"), "2")
        self.assertEqual(self.text_of(PAIR, "f (Pair 1 2) 3 = 1", "f _ _ = 2", f"x = f (Pair 0 {none}) {none}"), "2")
        self.assertEqual(self.answer(PAIR, "f (Pair 1 2) 3 = 1", "f _ _ = 2", f"x = f (Pair 1 {none}) 1")[0], "fault")
        self.assertEqual(self.text_of("f _ 1 = 1", "f 2 _ = 2", "f _ _ = 3", f"x = f {none} 1"), "1")
        self.assertEqual(self.answer("f _ 1 = 1", "f 2 _ = 2", "f _ _ = 3", f"x = f {none} 2")[0], "fault")

    def test_numbers_in_patterns(self):
        self.assertEqual(self.text_of("f 0 = 1", "f n = n * f (n - 1)", "x = f 20"), "2432902008176640000")
        self.assertEqual(self.text_of("x = case 0 - 1 of", "  1 -> 2", "  n -> n"), "-1")
        self.assertEqual(self.text_of("f 123456789012345678901234567890 = 1", "f _ = 0",
                                      "x = f (123456789012345678901234567889 + 1)"), "1")

    def test_a_case_of_a_name_and_of_a_part(self):
        for thing in ("y", "(y + 0)", "(f y)", "2"):
            self.assertEqual(self.text_of("y = 2", "f a = a", f"x = case {thing} of", "  1 -> 1", "  2 | 1 < 0 -> 2",
                                          "  n | n < 2 -> 3", "    | n < 3 -> n * 10", "  _ -> 5"), "20")
            self.assertEqual(self.text_of("y = 2", "f a = a", f"x = case {thing} of", "  n | n < 1 -> 1",
                                          "  2 -> 6", "  _ -> 5"), "6")

    def test_defs_without_patterns_of_many_rows(self):
        rows = ["f x | x < 0 = 1"] + [f"f x | x < {number} = {number}" for number in range(1, 50)] + ["f x = x"]
        for number in (0, 5, 30, 48, 50):
            self.assertEqual(self.text_of(*rows, f"x = f {number}"), str(number + 1) if number < 49 else str(number))
        rows = [f"y | z == {number} = {number * 2}" for number in range(50)] + ["y = 1"]
        for number in (0, 7, 8, 9, 17, 49, 50):
            self.assertEqual(self.text_of(*rows, f"z = {number}", "x = y"), str(number * 2) if number < 50 else "1")

    def test_a_thing_is_worked_once_for_all_rules(self):
        rows = [f"f {number} {number} = {number}" for number in range(30)]
        text = ["slow 0 = 29", "slow n = slow (n - 1)", *rows, "x = f (slow 12) (slow 12)"]
        self.assertEqual(self.agrees(text, (0,), 60000)["x"][1], "29")


class Programs(Agreeing):

    def test_places_data_and_tops(self):
        text = ["f x = x -- 1", "data B a = D a Num | A", "g = True", "data C = C"]
        places, data, tops = core(text)
        self.assertEqual(places, [place for place, _, _ in lexemes(text)])
        truth, own = (("False", 0), ("True", 0)), (("D", 2), ("A", 0))
        self.assertEqual(list(data.items()),
                         [("False", truth), ("True", truth), ("D", own), ("A", own), ("C", (("C", 0),))])
        self.assertEqual([x for x, _ in tops], ["f", "g"])
        self.assertEqual(core(["data C = C"]), ([(1, 1), (1, 6), (1, 8), (1, 10)],
                                                {"False": truth, "True": truth, "C": (("C", 0),)}, []))

    def test_new_again_and_by_name(self):
        text = ["f x = let y = x + 1 in case y of 1 -> 2"]
        told = core(text=text)
        self.assertEqual(core(text), told)
        told[0].clear()
        told[1].clear()
        told[2].clear()
        again = core(text)
        self.assertEqual([len(again[0]), len(again[1]), len(again[2])], [16, 2, 1])
        self.assertEqual(text, ["f x = let y = x + 1 in case y of 1 -> 2"])

    def test_refused_as_kinds_is(self):
        for text, kind in [(["?"], NoSign), (["f"], NoReading), (["f = 1", "g = 1", "f = 2"], Twice),
                           (["f 1 = 1", "f = 1"], Counts), (["f = g"], Unknown), (["f (True 1) = 1"], Parts),
                           (["f = 1 2"], Clash), (["f x = x x"], Endless), (["g = 1 2", "f = 1 3", "h = f"], Clash)]:
            one, other = refusal(self, kind, core, text), refusal(self, kind, kinds, text)
            self.assertEqual(vars(one), vars(other))

    def test_names_are_unlike_and_no_tops(self):
        text = ["x x = fun x -> case x of x -> let x = x in x", "y x = fun x -> x"]
        program = core(text)
        self.assertIsNone(program_wrong(program))

    def test_a_part_hangs_on_its_own_def_alone(self):
        own = [LIST, "f x (Cons 1 Nil) = x", "f x (Cons y r) | y < x = f (let z = y in z + 1) r", "f _ _ = g (fun x -> x)"]
        one = core(own + ["g h = h 1"])
        other = core(["g h | 1 < 2 = h 1", "  | True = let x = 1 in case x of x -> h x", "data A = A Num", *own, "h = A 1"])
        self.assertEqual(shape(dict(one[2])["f"]), shape(dict(other[2])["f"]))
        self.assertNotEqual(shape(dict(one[2])["g"]), shape(dict(other[2])["g"]))

    def test_small_texts_come_to_few_parts(self):
        for rows, many in [(["f x = f x"], 2), (["f x = f (x + 1)"], 6), ([LIST, "f x = Cons x Nil"], 4),
                           ([LIST, "f x = Cons x"], 3), ([LIST, "f Nil = 1", "f (Cons _ _) = 2"], 7),
                           (["f x = case x + 1 of", "  2 -> x", "  _ -> 3"], 7), (["f x = case x of y -> y"], 2),
                           (["f x = if x < 1 then 2 else x"], 7), (["f 1 2 = 3", "f x y = x"], 12),
                           (["f x = 1", "f y = 2"], 2), (["f = case 1 of x -> x"], 3)]:
            self.assertLessEqual(len(addresses(core(rows))), many, rows)

    def test_random_texts(self):
        seen = []
        for seed in range(160):
            chance = random.Random(seed)
            text = printed(Grower(chance, chance.choice([2, 3])).tree(chance.choice([1, 2, 3, 4])))
            with self.subTest(seed=seed):
                seen.extend([told[0] for told in self.agrees(text, (0, 1, 20), 400).values()])
                program = core(text)
                self.assertEqual(read_core(core_text(program)), program)
        self.assertGreater(seen.count("told"), 150)
        self.assertGreater(seen.count("fault"), 5)


def shape(part):
    """Tells a part without its places, its names by the order in which they first come."""
    names = {}

    def bare(thing):
        if isinstance(thing, tuple):
            return tuple(bare(one) for at, one in enumerate(thing) if not (at == 1 and isinstance(one, int)))
        if isinstance(thing, str) and "." in thing:
            return names.setdefault(thing, len(names))
        return thing
    return bare(part)


class Bounds(unittest.TestCase):

    def test_sixty_equations_sixty_choices_sixty_names(self):
        for row in ("f {0} = {0}", "f {0} y = y", "f y {0} = y", "f {0} {0} = {0}", "f x | x < {0} = x",
                    "f x {0} | x < {0} = x", "f x | x < {0} = {0} | x == {0} = 1 | x < 9 = 2", "f (Cons {0} Nil) = 1",
                    "f (Cons {0} (Cons x Nil)) | x < {0} = 1 | x == 0 = 2", "f | 1 < {0} = 2", "f = {0}"):
            text = [LIST, *[row.format(number) for number in range(60)]]
            program = core(text)
            self.assertIsNone(program_wrong(program), row)
        for row in ("{0} -> {0}", "y | y < {0} -> x", "{0} | x < {0} -> {0} | x == {0} -> 1 | x < 9 -> 2", "_ -> {0}"):
            for thing in ("x", "x + 1"):
                text = [f"f x = case {thing} of", *["  " + row.format(number) for number in range(60)]]
                self.assertIsNone(program_wrong(core(text)), row)
        text = [LIST, "f x = case x of", *[f"  Cons {number} (Cons y Nil) -> {number}" for number in range(60)]]
        self.assertIsNone(program_wrong(core(text)))
        names = [one + other for one in "abcdeghj" for other in "abcdeghjk"][:60]
        text = ["f x = let", *[f"  {one} y = {other} (y + x)" for one, other in zip(names, names[1:] + names[:1])], " in aa 1"]
        self.assertIsNone(program_wrong(core(text)))
        text = [f"{one} y = {other} (y + 1)" for one, other in zip(names, names[1:] + names[:1])]
        self.assertIsNone(program_wrong(core(text)))

    def test_parts_within_one_another(self):
        for many, valid in [(90, True), (400, False)]:
            for head, tail in [("fun y ->", ""), ("let y = x in", ""), ("let y = x + 1 in", ""), ("if x < 1 then x else", ""),
                               ("if x < 1 then", "else x"), ("let y = if x < 1 then x else x in", "")]:
                text = ["f x ="] + [" " + head] * many + [" x"] + ([" " + tail] * many if tail else [])
                wrong = program_wrong(core(text))
                if valid:
                    self.assertIsNone(wrong, head)
        text = ["f x = " + "f (" * 29 + "x" + ")" * 29]
        self.assertIsNone(program_wrong(core(text)))
        text = ["f x = x" + " + x" * 40 + " - (x" + " * x" * 40 + ")"]
        self.assertIsNone(program_wrong(core(text)))
        text = ["f x ="] + [" " * (13 * number) + " case x of x ->" for number in range(28)] + [" " * 400 + "x"]
        self.assertIsNone(program_wrong(core(text)))

    def test_many_parts(self):
        names = [one + other for one in "abcdeghj" for other in "abcdeghjk"][:45]
        text = [f"{name} x y = {name} (x + 1) (y * 2 + x) - (if x < y then {name} y x else x * x) * 3" for name in names]
        program = core(text)
        self.assertIsNone(program_wrong(program))
        self.assertGreater(len(addresses(program)), 900)
        self.assertLess(sum(len(parts_in(e)) for _, e in program[2]), 2000)


if __name__ == "__main__":
    unittest.main()
