"""core_kinds and kinds_kept: of texts' cores, behind turnings, of programs by hand (27)."""

import inspect
import random
import unittest

from slumberway import corekinds as corekinds_file
from slumberway.corekinds import core_kinds, kinds_kept
from slumberway.cores import addresses, part_at, program_wrong, with_part
from slumberway.errors import Clash, Counts, Endless, NoKinds, NoProgram, NoReading, NoSign, Parts, Twice, Unknown
from slumberway.kinds import kinds
from slumberway.making import core
from slumberway.printer import printed
from slumberway.turns import all_turned, turned
from tests.grown import Grower
from tests.helper import refusal

DATA = ["data List a = Nil | Cons a (List a)", "data Pair a b = Pair a b", "data F a = F (a -> Num)"]
ONE = ("num", 0, 1)


def name(x):
    return ("name", 0, x)


def fun(names, e):
    return ("fun", 0, tuple(names.split()), e)


def call(f, *atoms):
    return ("call", 0, name(f), atoms)


def con(maker, *atoms):
    return ("con", 0, maker, atoms)


def case(e, x, *alternatives, other=None):
    return ("case", 0, e, x, alternatives, other)


def deed(one, other, word="plus"):
    return ("deed", 0, word, one, other)


class Told(unittest.TestCase):

    def program(self, **tops):
        places, data, _ = core([*DATA, "x = 1"])
        one = (places, data, list(tops.items()))
        self.assertIsNone(program_wrong(one))
        return one

    def told(self, **tops):
        one = self.program(**tops)
        before = repr(one)
        told = core_kinds(DATA + ["x = 1"], one)
        self.assertEqual(repr(one), before)
        self.assertEqual(list(told), sorted(tops))
        return told

    def kind(self, e, **tops):
        return self.told(main=e, **tops)["main"]

    def none(self, e, **tops):
        one = self.program(main=e, **tops)
        refusal(self, NoKinds, core_kinds, DATA + ["x = 1"], one)
        self.assertIs(kinds_kept(DATA + ["x = 1"], one), False)

    def test_each_kind_of_part(self):
        for e, wanted in [
                (ONE, "Num"), (con("Nil"), "List a"), (con("Cons", ONE, name("n")), "List Num"), (con("True"), "Truth"),
                (con("Pair", ONE, name("n")), "Pair Num (List a)"), (fun("a", name("a")), "a -> a"), (fun("a b", name("a")), "a -> b -> a"),
                (fun("a b", call("a", name("b"))), "(a -> b) -> a -> b"), (fun("a b", call("a", name("b"), ONE)), "(a -> Num -> b) -> a -> b"),
                (fun("a", con("F", name("a"))), "(a -> Num) -> F a"), (deed(ONE, ONE), "Num"), (deed(ONE, ONE, "below"), "Truth"),
                (deed(ONE, ONE, "same"), "Truth"), (fun("a b", deed(name("a"), name("b"))), "Num -> Num -> Num"), (("fault", 0, "none"), "a"),
                (fun("a", ("fault", 0, "none")), "a -> b"), (("let", 0, (("a", ONE),), con("Pair", name("a"), name("a"))), "Pair Num Num"),
                (("early", 0, "a", ONE, 0, con("Pair", name("a"), name("n"))), "Pair Num (List a)"),
                (("now", 0, 0, "zz", con("Nil")), "List a"), (fun("a", ("now", 0, 0, "zz", deed(name("a"), ONE))), "Num -> Num"),
                (fun("a", case(name("a"), "b")), "a -> b"), (fun("a", case(name("a"), "b", other=name("b"))), "a -> a"),
                (fun("a", case(name("a"), "b", (1, (), ONE))), "Num -> Num"),
                (fun("a", case(name("a"), "b", ("True", (), ONE), other=ONE)), "Truth -> Num"),
                (fun("a", case(name("a"), "b", ("Cons", ("c", "d"), name("c")))), "List a -> a"),
                (fun("a", case(name("a"), "b", ("Cons", ("c", "d"), name("d")), ("Nil", (), name("b")))), "List a -> List a"),
                (fun("a", case(name("a"), "b", ("F", ("c",), name("c")))), "F a -> a -> Num")]:
            self.assertEqual(self.kind(e, n=con("Nil")), wanted, e)

    def test_names_of_lets_cases_and_earlies_have_one_kind(self):
        both = con("Pair", name("c"), name("d"))

        def twice(x):
            return ("let", 0, (("c", call(x, ONE)), ("d", call(x, name("n")))), both)
        self.none(("let", 0, (("i", fun("a", name("a"))),), twice("i")), n=con("Nil"))
        self.none(("early", 0, "i", fun("a", name("a")), 0, twice("i")), n=con("Nil"))
        self.none(case(fun("a", name("a")), "i", other=twice("i")), n=con("Nil"))
        # A top has kinds anew.
        self.assertEqual(self.kind(twice("i"), i=fun("a", name("a")), n=con("Nil")), "Pair Num (List a)")

    def test_tops_that_name_one_another(self):
        told = self.told(f=fun("a", call("g", name("a"))), g=fun("b", call("f", name("b"))))
        self.assertEqual(told, {"f": "a -> b", "g": "a -> b"})
        # Within their own group they have one kind.
        told = self.told(f=fun("a", ("let", 0, (("c", call("f", ONE)),), name("a"))))
        self.assertEqual(told, {"f": "Num -> Num"})
        told = self.told(h=name("i"), i=fun("a", name("a")))
        self.assertEqual(told, {"h": "a -> a", "i": "a -> a"})
        self.assertEqual(self.told(z=call("y", ONE), y=fun("a", con("Cons", name("a"), name("x"))), x=con("Nil"))["z"], "List Num")

    def test_none(self):
        for e in (call("n", ONE), deed(con("True"), ONE), deed(ONE, con("Nil")), fun("a", call("a", name("a"))),
                  con("Cons", ONE, ONE), fun("a", case(name("a"), "b", (1, (), ONE), ("Nil", (), ONE))),
                  case(con("Nil"), "b", (1, (), ONE)), case(ONE, "b", (1, (), ONE), other=con("Nil")),
                  case(con("Nil"), "b", ("Nil", (), ONE), ("True", (), ONE)), case(fun("a", ONE), "b", ("Nil", (), ONE)),
                  ("let", 0, (("a", con("Cons", name("a"), name("n"))),), ONE), call("i", ONE, ONE)):
            self.none(e, n=con("Nil"), i=fun("j", name("j")))

    def test_makers_that_the_text_has_not(self):
        text = ["data List a = Nil", "x = Nil"]
        places, _, tops = core(text)
        lot = (("Nil", 0), ("Cons", 2))
        data = {"False": (("False", 0), ("True", 0)), "True": (("False", 0), ("True", 0)), "Nil": lot, "Cons": lot}
        self.assertEqual(core_kinds(text, (places, data, tops)), {"x": "List a"})
        for e in (con("Cons", ONE, ONE), case(con("Nil"), "b", ("Cons", ("c", "d"), con("Nil"))), ("let", 0, (("a", con("Cons", ONE, ONE)),), con("Nil"))):
            one = (places, data, [("x", e)])
            self.assertIsNone(program_wrong(one))
            refusal(self, NoKinds, core_kinds, text, one)
            self.assertIs(kinds_kept(text, one), False)

    def test_texts_without_tops_and_programs_without(self):
        self.assertEqual(core_kinds(DATA, core(DATA)), {})
        self.assertIs(kinds_kept(DATA, core(DATA)), True)

    def test_refused(self):
        for text, kind in [(["?"], NoSign), (["f"], NoReading), (["f = 1", "g = 1", "f = 2"], Twice), (["f 1 = 1", "f = 1"], Counts),
                           (["f = g"], Unknown), (["f (True 1) = 1"], Parts), (["f = 1 2"], Clash), (["f x = x x"], Endless)]:
            for function in (core_kinds, kinds_kept):
                for thing in (None, core(["f = 1"])):
                    one, other = refusal(self, kind, function, text, thing), refusal(self, kind, kinds, text)
                    self.assertEqual(vars(one), vars(other))
        for function in (core_kinds, kinds_kept):
            self.assertEqual(refusal(self, NoProgram, function, ["f = 1"], None).wrong, ("program",))
            self.assertEqual(refusal(self, NoProgram, function, ["f = 1"], ([], {}, [("f", ONE)])).wrong, ("part", ("f", ())))

    def test_by_names(self):
        text = ["f x = x"]
        self.assertEqual(core_kinds(text=text, program=core(text)), {"f": "a -> a"})
        self.assertIs(kinds_kept(text=text, program=core(text)), True)
        told = core_kinds(text, core(text))
        told.clear()
        self.assertEqual(core_kinds(text, core(text)), {"f": "a -> a"})
        for word in ("core_kinds", "kinds_kept"):
            function = getattr(corekinds_file, word)
            self.assertEqual((str(inspect.signature(function)), function.__module__), ("(text, program)", corekinds_file.__name__))

    def test_deep_parts(self):
        e = ONE
        for number in range(190):
            e = [deed(e, ONE), ("let", 0, ((f"a{number}", ONE),), e), case(e, f"a{number}", other=ONE), ("now", 0, 0, "zz", e),
                 case(ONE, f"a{number}", (1, (), e)), ("early", 0, f"a{number}", ONE, 0, e)][number % 6]
        self.assertEqual(self.kind(e), "Num")


class Kept(unittest.TestCase):

    def test_cores_and_all_that_turnings_make_of_them(self):
        count = 0
        for seed in range(60):
            text = printed(Grower(random.Random(seed), 3).tree(3))
            one = core(text)
            self.assertIs(kinds_kept(text, one), True)
            _, turns = all_turned(one, most=60)
            for turn in turns:
                one = turned(one, turn)
                self.assertIs(kinds_kept(text, one), True)
                count += 1
        self.assertGreater(count, 500)

    def test_kinds_may_be_wider_than_the_text_s(self):
        text = ["f x = let g y = x in g 1", "h = f 2", "k x = if True then x else x + 1"]
        told = core_kinds(text, core(text))
        self.assertEqual(told, {"f": "a -> a", "h": "Num", "k": "Num -> Num"})
        one = core(text)
        one[2][2] = ("k", one[2][0][1])
        one[2][0] = ("f", ("fun", 0, ("q",), name("q")))
        self.assertIs(kinds_kept(text, one), True)
        # k is less wide in the text; not the other way about.
        one[2][0] = ("f", ("fun", 0, ("q",), deed(name("q"), ONE)))
        self.assertIs(kinds_kept(text, one), False)

    def test_parts_exchanged_for_parts_of_another_kind(self):
        kept = []
        for seed in range(40):
            chance = random.Random(seed)
            text = printed(Grower(chance, 3).tree(2))
            one = core(text)
            wanted = kinds(text)
            for _ in range(8):
                address = chance.choice(addresses(one))
                part = chance.choice([ONE, con("True"), ("fault", 0, "none"), fun("zz", name("zz")), part_at(one, chance.choice(addresses(one)))])
                other = with_part(one, address, part)
                if program_wrong(other) is not None:
                    continue
                try:
                    told = core_kinds(text, other)
                except NoKinds:
                    told = None
                kept.append(kinds_kept(text, other))
                if told is None:
                    self.assertIs(kept[-1], False)
                elif told == wanted:
                    self.assertIs(kept[-1], True)
                if kept[-1]:
                    self.assertEqual(list(told), list(wanted))
        self.assertGreater(kept.count(True), 40)
        self.assertGreater(kept.count(False), 60)

    def test_tops_that_the_text_has_not_or_one_too_few(self):
        text = ["f x = x", "g = f 1"]
        one = core(text)
        self.assertIs(kinds_kept(text, one), True)
        places, data, tops = one
        self.assertIs(kinds_kept(text, (places, data, [*tops, ("h", ONE)])), False)
        self.assertIs(kinds_kept(text, (places, data, tops[:1])), False)
        self.assertIs(kinds_kept(text, (places, data, [tops[0], ("h", tops[1][1])])), False)
        self.assertIs(kinds_kept(text, (places, data, tops[::-1])), True)

    def test_kinds_that_come_of_wider_ones(self):
        def comes(text, e):
            one = core(text)
            return kinds_kept(text, (one[0], one[1], [(one[2][0][0], e), *one[2][1:]]))
        text = ["f a b = if a == b then a else b", "n = 1"]
        self.assertIs(comes(text, fun("a b", name("a"))), True)
        self.assertIs(comes(text, fun("a", name("a"))), False)
        text = ["f a b = a", "n = 1"]
        self.assertIs(comes(text, fun("a b", deed(name("a"), ONE))), False)
        self.assertIs(comes(text, fun("a b", case(name("a"), "c", other=("fault", 0, "none")))), True)
        text = ["f a = a 1", "n = 1"]
        self.assertIs(comes(text, fun("a", name("a"))), False)
        self.assertIs(comes(text, fun("a", call("a", name("n")))), True)
        text = ["f a b = if True then a else b", "n = 1"]
        self.assertIs(comes(text, fun("a b", name("b"))), True)
        text = ["f a b = (let c = fun d -> d in if True then c a else c b)", "n = 1"]
        self.assertIs(comes(text, fun("a b", name("b"))), True)


if __name__ == "__main__":
    unittest.main()
