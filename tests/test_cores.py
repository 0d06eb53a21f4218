"""Programs by hand: their forms, addresses, parts, free names, names told anew, texts (16 to 18)."""

import random
import unittest

from slumberway.cores import addresses, named, part_at, program_wrong, with_part
from slumberway.coretexts import core_text, read_core
from slumberway.errors import NoAddress, NoProgram, NoText
from slumberway.making import core
from slumberway.printer import printed
from slumberway.renames import anew
from tests.grown import Grower
from tests.helper import refusal

TRUTH = (("False", 0), ("True", 0))
LIST = (("Nil", 0), ("Cons", 2))
DATA = {"False": TRUTH, "True": TRUTH, "Nil": LIST, "Cons": LIST}
PLACES = [(1, 1), (1, 3), (2, 5)]
ONE = ("num", 0, 1)
SIXTY = 10 ** 60


def program(*tops, places=PLACES, data=None):
    return (list(places), dict(DATA if data is None else data), list(tops))


def top(e, x="f"):
    return program((x, e))


# A part of each kind, all fit to stand in a top called f; {0} binds nothing that another one of them binds.
RIGHT = {
    "num": ("num", 2, SIXTY - 1),
    "name": ("name", 1, "f"),
    "con": ("con", 0, "Cons", (("num", 1, 0), ("name", 2, "f"))),
    "call": ("call", 0, ("name", 1, "f"), (("num", 1, 0), ("name", 2, "f"))),
    "fun": ("fun", 0, ("a", "b.1"), ("name", 0, "a")),
    "let": ("let", 0, (("c", ("name", 0, "d.12")), ("d.12", ("num", 0, 1))), ("name", 0, "c")),
    "case": ("case", 0, ("num", 0, 2), "e", (("Nil", (), ("name", 0, "e")), (0, (), ("num", 0, 1)),
                                             ("Cons", ("g", "h"), ("name", 0, "g"))), ("name", 0, "e")),
    "deed": ("deed", 0, "plus", ("num", 0, 1), ("num", 0, 2)),
    "fault": ("fault", 0, "none"),
    "early": ("early", 0, "i", ("num", 0, 1), 2, ("name", 0, "i")),
    "now": ("now", 1, 2, "j.7", ("num", 0, 1)),
}


def wrapped(e):
    """Tells a part with another one within it."""
    return ("deed", 0, "plus", ("num", 0, 1), e)


class Frames(unittest.TestCase):

    def wrong(self, thing, *told):
        self.assertEqual(program_wrong(thing), told)

    def test_right_ones(self):
        self.assertIsNone(program_wrong(program()))
        self.assertIsNone(program_wrong(([], {}, [])))
        self.assertIsNone(program_wrong(thing=top(ONE)))

    def test_no_programs_at_all(self):
        for thing in (None, True, 0, 7, "program", "", [], {}, (), ([],), ([], {}), [[], {}, []], ([], {}, [], []),
                      ((), {}, []), ([], [], []), ([], {}, ()), ([], {}, {}), (None, None, None), ({}, [], []), object(),
                      b"", 1.5, ([], None, []), ("", "", ""), frozenset(), lambda: 0):
            self.wrong(thing, "program")

    def test_places(self):
        self.assertIsNone(program_wrong(program(places=[(1, 1), (SIXTY - 1, SIXTY - 1), (1, 1)])))
        for place in (None, 1, (), (1,), (1, 2, 3), [1, 2], (0, 1), (1, 0), (-1, 1), (True, 1), (1, True), ("1", 1),
                      (SIXTY, 1), (1, SIXTY), (1, None), ((1, 1), 1), (1.0, 1), "ab", {}):
            self.wrong(program(("F", 1), places=[(1, 1), place, None]), "places", 1)

    def test_tops(self):
        for x in ("a", "length", "a1", "a" * 100, "z09b"):
            self.assertIsNone(program_wrong(top(ONE, x)))
        for x in ("", "A", "1", "aB", "a.1", "a_", "a b", "a" * 101, None, 1, ("a",), ["a"], "\u00e4", "a\u00e4", "a\u0661", ".1",
                  "a."):
            self.wrong(program(("b", ONE), (x, ONE)), "top", 1)
        for thing in (None, "ab", ("a",), ("a", ONE, ONE), ["a", ONE], 1, ()):
            self.wrong(program(thing), "top", 0)
        self.wrong(program(("a", ONE), ("b", ONE), ("a", ONE)), "top", 2)

    def test_the_order_of_reasons(self):
        self.wrong(([None], {}, [None], 1), "program")
        self.wrong(([(1, 1), None, 2], {}, [None]), "places", 1)
        self.wrong(([(1, 1)], {}, [None, None]), "top", 0)
        self.wrong(([(1, 1)], {}, [("a", None), None]), "top", 1)
        self.wrong(program(("a", ("con", 0, "No", ())), ("b", None)), "maker", ("a", ()))
        self.wrong(program(("a", ("name", 0, "x")), ("b", None)), "free", ("a", ()))


class Forms(unittest.TestCase):
    """("part", address): each kind of part, right and in each way wrong."""

    def right(self, *parts):
        for part in parts:
            self.assertIsNone(program_wrong(top(part)), part)
            self.assertIsNone(program_wrong(top(wrapped(part))), part)

    def wrong(self, *parts):
        for part in parts:
            self.assertEqual(program_wrong(top(part)), ("part", ("f", ())), part)
            self.assertEqual(program_wrong(top(wrapped(part))), ("part", ("f", (1,))), part)

    def test_all_right(self):
        self.right(*RIGHT.values())

    def test_no_parts(self):
        self.wrong(None, 0, True, "num", (), ("num",), ("num", 0), [], ["num", 0, 1], {}, ("no", 0, 1), (None, 0, 1),
                   (1, 0, 1), (["num"], 0, 1), ("Num", 0, 1), ((("num",),), 0, 1), (b"num", 0, 1))

    def test_places_and_counts_of_things(self):
        for part in RIGHT.values():
            self.wrong(part[:-1], (*part, None), (*part, 1), list(part), (part[0].upper(), *part[1:]))
            for p in (-1, 3, None, True, False, "0", 1.0, (0,), SIXTY):
                self.wrong((part[0], p, *part[2:]))
            self.right((part[0], 2, *part[2:]))

    def test_nums(self):
        self.right(("num", 0, 0))
        self.wrong(*[("num", 0, n) for n in (-1, SIXTY, True, None, "1", 1.0, (1,))])

    def test_names(self):
        names = ["a", "a.1", "a1.10", "a" * 100, "a" * 100 + ".1", "a." + "9" * 70, "abc.305"]
        for name in names:
            self.right(("fun", 0, (name,), ("name", 0, name)))
        for name in ("", ".", "a.", ".1", "a.0", "a.01", "a.x", "a.1.2", "A", "a.1a", "a" * 101, "a" * 101 + ".1", "1",
                     "a .1", "a. 1", "a.-1", "a.+1", None, 1, ("a",), ["a"], "a_", "a\u00b2", "a.\u00b2", "a.\u0661"):
            self.wrong(("name", 0, name), ("fun", 0, (name,), ONE), ("fun", 0, ("a", name), ONE),
                       ("let", 0, ((name, ONE),), ONE), ("case", 0, ONE, name, (), None),
                       ("case", 0, ONE, "a", (("Cons", ("b", name), ONE),), None), ("early", 0, name, ONE, 0, ONE),
                       ("now", 0, 0, name, ONE), ("con", 0, "Cons", (ONE, ("name", 0, name))),
                       ("call", 0, ("name", 0, name), (ONE,)), ("call", 0, ("name", 0, "f"), (("name", 0, name),)))

    def test_makers(self):
        for maker in ("A", "Abc", "A1", "Z9z", "A" + "b" * 99):
            data = {**DATA, maker: ((maker, 0),)}
            self.assertIsNone(program_wrong(program(("f", ("con", 0, maker, ())), data=data)))
        for maker in ("", "a", "AB", "A_", "A.1", "1", "A" + "b" * 100, None, 1, ("A",), ["A"], "\u00c4"):
            self.wrong(("con", 0, maker, ()))
            if maker.__class__ is not int:
                self.wrong(("case", 0, ONE, "a", ((maker, (), ONE),), None))

    def test_atoms(self):
        for atom in (None, 1, "f", (), ("num", 0), ("num", 0, -1), ("num", 3, 1), ["num", 0, 1], ("con", 0, "Nil", ()),
                     ("num", 0, 1, 2), ("name", 0, 1), ("num", True, 1), ("name", -1, "f"), ("fault", 0, "none"), (None, 0, 1)):
            self.wrong(("con", 0, "Cons", (ONE, atom)), ("call", 0, ("name", 0, "f"), (ONE, atom)),
                       ("call", 0, atom, (ONE,)))
        self.wrong(("call", 0, ONE, (ONE,)), ("call", 0, ("name", 0, "f"), ()), ("call", 0, ("name", 0, "f"), [ONE]),
                   ("con", 0, "Cons", [ONE, ONE]), ("con", 0, "Nil", None), ("call", 0, ("name", 0, "f"), None))

    def test_sixty_things(self):
        many = tuple(f"a.{number}" for number in range(1, 62))
        data = {**DATA, "Big": (("Big", 60),), "Huge": (("Huge", 61),)}

        def check(part, is_right):
            wanted = None if is_right else ("part", ("f", ()))
            self.assertEqual(program_wrong(program(("f", part), data=data)), wanted)
        for size in (60, 61):
            check(("con", 0, "Big" if size == 60 else "Huge", (ONE,) * size), size == 60)
            check(("call", 0, ("name", 0, "f"), (ONE,) * size), size == 60)
            check(("fun", 0, many[:size], ONE), size == 60)
            check(("let", 0, tuple((name, ONE) for name in many[:size]), ONE), size == 60)
            check(("case", 0, ONE, "b", tuple((number, (), ONE) for number in range(size)), None), size == 60)
            check(("case", 0, ONE, "b", (("Big" if size == 60 else "Huge", many[:size], ONE),), None), size == 60)

    def test_funs_and_lets(self):
        self.wrong(("fun", 0, (), ONE), ("fun", 0, ["a"], ONE), ("fun", 0, "a", ONE), ("fun", 0, None, ONE),
                   ("let", 0, (), ONE), ("let", 0, [("a", ONE)], ONE), ("let", 0, (("a",),), ONE), ("let", 0, ("a",), ONE),
                   ("let", 0, (["a", ONE],), ONE), ("let", 0, (("a", ONE, ONE),), ONE), ("let", 0, (None,), ONE),
                   ("let", 0, (("a", ONE), None), ONE))

    def test_cases(self):
        self.right(("case", 0, ONE, "a", (), None), ("case", 0, ONE, "a", (), ONE), ("case", 0, ONE, "a.1", ((0, (), ONE),), None),
                   ("case", 0, ONE, "a", ((SIXTY - 1, (), ONE), ("Nil", (), ONE), (1, (), ONE), ("True", (), ONE)), None))
        for alternative in (None, (), (1, ()), (1, (), ONE, ONE), [1, (), ONE], (1, ("a",), ONE), (1, [], ONE), (1, None, ONE),
                            (-1, (), ONE), (SIXTY, (), ONE), (True, (), ONE), (False, (), ONE), ("nil", (), ONE),
                            ("Cons", ["b", "c"], ONE), ("Cons", "bc", ONE), (None, (), ONE), ((1,), (), ONE), (1.0, (), ONE)):
            self.wrong(("case", 0, ONE, "a", (alternative,), None), ("case", 0, ONE, "a", ((7, (), ONE), alternative), ONE))
        self.wrong(("case", 0, ONE, "a", None, None), ("case", 0, ONE, "a", [], None),
                   ("case", 0, ONE, "a", ((1, (), ONE), (2, (), ONE), (1, (), ONE)), None),
                   ("case", 0, ONE, "a", (("Nil", (), ONE), ("Nil", (), ONE)), None))

    def test_deeds_faults_earlies_and_nows(self):
        self.right(*[("deed", 0, word, ONE, ONE) for word in ("plus", "less", "times", "below", "same")])
        self.wrong(*[("deed", 0, word, ONE, ONE) for word in ("+", "", "Plus", None, ["plus"], ("plus",), 1)])
        self.right(*[("fault", 0, word) for word in ("none", "a", "a9", "a" * 100)])
        self.wrong(*[("fault", 0, word) for word in ("none.1", "", "A", None, 1, "a" * 101, ["none"])])
        for q in (-1, 3, None, True, "0", 0.0):
            self.wrong(("early", 0, "a", ONE, q, ONE), ("now", 0, q, "a", ONE))
        self.right(("early", 0, "a", ONE, 2, ONE), ("now", 0, 2, "f", ONE), ("now", 0, 2, "nowhere", ONE))

    def test_parts_within_are_judged_at_their_own_addresses(self):
        bad = ("num", 0, -1)
        for part, path in [(("fun", 0, ("a",), bad), (0,)), (("let", 0, (("a", ONE), ("b", bad)), ONE), (1,)),
                           (("let", 0, (("a", ONE), ("b", ONE)), bad), (2,)), (("case", 0, bad, "a", (), None), (0,)),
                           (("case", 0, ONE, "a", ((1, (), ONE), (2, (), bad)), None), (2,)),
                           (("case", 0, ONE, "a", ((1, (), ONE),), bad), (2,)), (("case", 0, ONE, "a", (), bad), (1,)),
                           (("deed", 0, "plus", bad, bad), (0,)), (("deed", 0, "plus", ONE, bad), (1,)),
                           (("early", 0, "a", bad, 0, ONE), (0,)), (("early", 0, "a", ONE, 0, bad), (1,)),
                           (("now", 0, 0, "a", bad), (0,)), (("fun", 0, ("a",), None), (0,)),
                           (("deed", 0, "plus", None, ONE), (0,))]:
            self.assertEqual(program_wrong(top(part)), ("part", ("f", path)))

    def test_long_paths(self):
        for many, wanted in [(200, None), (201, ("part", ("f", (1,) * 200 + (0,)))), (5000, ("part", ("f", (1,) * 200 + (0,))))]:
            e = ONE
            for _ in range(many):
                e = wrapped(e)
            self.assertEqual(program_wrong(top(e)), wanted)
        e = ("num", 0, -1)
        for _ in range(201):
            e = ("now", 0, 0, "a", e)
        self.assertEqual(program_wrong(top(e)), ("part", ("f", (0,) * 201)))

    def test_deep_things(self):
        deep = ()
        for _ in range(100000):
            deep = (deep,)
        call = ("name", 0, "f")
        rows = []
        for _ in range(100000):
            call = ("call", 0, call, (ONE,))
            rows = [rows]
        for thing in (deep, call, rows):
            self.assertEqual(program_wrong(thing), ("program",))
            self.assertEqual(program_wrong(([thing], {}, [])), ("places", 0))
            self.assertEqual(program_wrong(([], {}, [thing])), ("top", 0))
            self.assertEqual(program_wrong(([], {}, [(thing, ONE)])), ("top", 0))
            self.wrong(thing, (thing, 0, 1), ("num", thing, 1), ("num", 0, thing), ("name", 0, thing), ("con", 0, thing, ()),
                       ("con", 0, "Cons", thing), ("con", 0, "Cons", (thing, thing)), ("call", 0, thing, (ONE,)),
                       ("fun", 0, thing, ONE), ("let", 0, thing, ONE), ("case", 0, ONE, thing, (), None),
                       ("case", 0, ONE, "a", thing, None), ("case", 0, ONE, "a", ((thing, (), ONE),), None),
                       ("deed", 0, thing, ONE, ONE), ("fault", 0, thing), ("now", 0, thing, "a", ONE))
            self.assertEqual(refusal(self, NoProgram, addresses, thing).wrong, ("program",))
            self.assertIs(refusal(self, NoAddress, part_at, top(ONE), thing).address, thing)
            self.assertIs(refusal(self, NoAddress, part_at, top(ONE), (thing, ())).address[0], thing)
            self.assertIs(refusal(self, NoAddress, part_at, top(ONE), ("f", (thing,))).address[1][0], thing)


class Reasons(unittest.TestCase):
    """maker, twice, free and great, and the order of all."""

    def wrong(self, e, *told):
        self.assertEqual(program_wrong(top(e)), told)

    def test_makers(self):
        self.wrong(("con", 0, "Nil", (ONE,)), "maker", ("f", ()))
        self.wrong(("con", 0, "Cons", (ONE,)), "maker", ("f", ()))
        self.wrong(("con", 0, "No", ()), "maker", ("f", ()))
        self.wrong(wrapped(("case", 0, ONE, "a", (("Nil", (), ONE), ("Cons", ("b",), ONE)), None)), "maker", ("f", (1,)))
        self.wrong(("case", 0, ONE, "a", (("True", ("b",), ONE),), None), "maker", ("f", ()))
        self.wrong(("case", 0, ONE, "a", (("No", (), ONE),), None), "maker", ("f", ()))
        # Of whatever lots.
        self.assertIsNone(program_wrong(top(("case", 0, ONE, "a", (("True", (), ONE), ("Nil", (), ONE), (3, (), ONE)), None))))

    def test_twice(self):
        self.wrong(("fun", 0, ("a", "a"), ONE), "twice", ("f", ()))
        self.wrong(("fun", 0, ("f",), ONE), "twice", ("f", ()))
        self.wrong(("let", 0, (("a", ONE), ("a", ONE)), ONE), "twice", ("f", ()))
        self.wrong(("case", 0, ONE, "a", (("Cons", ("b", "a"), ONE),), None), "twice", ("f", ()))
        self.wrong(("case", 0, ONE, "a", (("Cons", ("b", "c"), ONE), (1, (), ONE), ("Nil", (), ONE)), ("fun", 0, ("c",), ONE)),
                   "twice", ("f", (4,)))
        self.wrong(("case", 0, ("fun", 0, ("a",), ONE), "a", (), None), "twice", ("f", (0,)))
        self.wrong(("deed", 0, "plus", ("fun", 0, ("a",), ONE), ("fun", 0, ("a",), ONE)), "twice", ("f", (1,)))
        self.wrong(("early", 0, "a", ("early", 0, "a", ONE, 0, ONE), 0, ONE), "twice", ("f", (0,)))
        self.assertIsNone(program_wrong(top(("fun", 0, ("a",), ("now", 0, 0, "a", ("now", 0, 0, "f", ONE))))))
        self.assertEqual(program_wrong(program(("f", ("fun", 0, ("a",), ONE)), ("g", ("fun", 0, ("b", "a"), ONE)))),
                         ("twice", ("g", ())))
        self.assertEqual(program_wrong(program(("f", ("fun", 0, ("g",), ONE)), ("g", ONE))), ("twice", ("f", ())))
        self.assertIsNone(program_wrong(top(("fun", 0, ("a", "a.1", "a.2", "aa"), ONE))))

    def test_free(self):
        def name(x):
            return ("name", 0, x)
        for e in (name("x"), ("con", 0, "Cons", (ONE, name("x"))), ("call", 0, name("x"), (ONE,)),
                  ("call", 0, name("f"), (name("x"),))):
            self.wrong(e, "free", ("f", ()))
            self.assertIsNone(program_wrong(top(("fun", 0, ("x",), e))))
        self.wrong(("deed", 0, "plus", ("fun", 0, ("a",), ONE), name("a")), "free", ("f", (1,)))
        self.wrong(("deed", 0, "plus", name("a"), ("fun", 0, ("a",), ONE)), "free", ("f", (0,)))
        self.wrong(("deed", 0, "plus", ("let", 0, (("a", ONE),), name("a")), name("a")), "free", ("f", (1,)))
        # A group's names in all of the let.
        self.assertIsNone(program_wrong(top(("let", 0, (("a", name("b")), ("b", name("a"))), name("b")))))
        # A case's x and an alternative's names in that one's part, x in other, too.
        self.wrong(("case", 0, name("a"), "a", (), None), "free", ("f", (0,)))
        self.wrong(("case", 0, ONE, "a", (("Cons", ("b", "c"), ONE), ("Nil", (), name("b"))), None), "free", ("f", (2,)))
        self.wrong(("case", 0, ONE, "a", (("Cons", ("b", "c"), ONE),), name("b")), "free", ("f", (2,)))
        self.assertIsNone(program_wrong(top(("case", 0, ONE, "a", (("Cons", ("b", "c"), wrapped(name("c"))), (1, (), name("a"))),
                                             name("a")))))
        # An early's x in its f, a now's nowhere.
        self.wrong(("early", 0, "a", name("a"), 0, ONE), "free", ("f", (0,)))
        self.assertIsNone(program_wrong(top(("early", 0, "a", ONE, 0, name("a")))))
        self.wrong(("now", 0, 0, "a", name("a")), "free", ("f", (0,)))
        self.assertEqual(program_wrong(program(("f", ("fun", 0, ("a",), ONE)), ("g", name("a")))), ("free", ("g", ())))
        self.assertIsNone(program_wrong(program(("f", name("g")), ("g", name("f")))))

    def test_two_reasons_at_once(self):
        maker, twice, free = ("con", 0, "No", ()), ("fun", 0, ("a", "a"), ONE), ("name", 0, "x")
        self.wrong(("con", 0, "No", (("name", 0, "x"),)), "maker", ("f", ()))
        self.wrong(("deed", 0, "plus", free, maker), "free", ("f", (0,)))
        self.wrong(("deed", 0, "plus", twice, None), "twice", ("f", (0,)))
        self.wrong(("deed", 0, "no", twice, None), "part", ("f", ()))
        self.wrong(("case", 0, None, "f", (("No", (), ONE),), None), "maker", ("f", ()))
        self.wrong(("case", 0, None, "f", (), None), "twice", ("f", ()))
        self.wrong(("case", 0, None, "a", (), None), "part", ("f", (0,)))

    def test_great(self):
        def wide(many):
            """Tells a part of just so many parts."""
            rows = [("deed", 0, "plus", ONE, ONE)] * (many // 3 - 1) + [ONE] * (many % 3 + 2)
            while len(rows) > 1:
                rows = [("deed", 0, "plus", *rows[at:at + 2]) if at + 1 < len(rows) else rows[at]
                        for at in range(0, len(rows), 2)]
            return rows[0]

        def count(e):
            return 1 + sum(count(part) for part in e[3:]) if e[0] == "deed" else 1
        e = wide(1500)
        extra = 4000 - 2 * count(e)
        full = program(("f", e), ("g", e), ("h", chain_of(extra)))
        self.assertEqual(len(addresses(full)), 4000)
        self.assertIsNone(program_wrong(full))
        full[2].append(("i", ONE))
        self.assertEqual(program_wrong(full), ("great",))
        full[2].append(("j", None))
        self.assertEqual(program_wrong(full), ("part", ("j", ())))
        many = [(f"a{number}", ONE) for number in range(61)]
        self.assertIsNone(program_wrong(program(*many[:60])))
        self.assertEqual(program_wrong(program(*many)), ("great",))
        self.assertEqual(program_wrong(program(*many[:60], ("b", ("name", 0, "x")))), ("free", ("b", ())))


def chain_of(many):
    """Tells a part of so many parts, none of whose paths is long."""
    if many < 3:
        return ONE if many == 1 else ("now", 0, 0, "a", ONE)
    if many % 2 == 0:
        return ("now", 0, 0, "a", chain_of(many - 1))
    half = (many - 1) // 2
    return ("deed", 0, "plus", chain_of(half), chain_of(many - 1 - half))


FULL = program(
    ("f", ("fun", 0, ("a", "b.1"), ("let", 1, (("c", RIGHT["con"]), ("d.12", ("name", 0, "c"))),
                                    ("case", 0, ("name", 2, "b.1"), "e", (
                                        ("Cons", ("g", "h"), ("call", 0, ("name", 0, "g"), (("name", 0, "h"), ("num", 0, 3)))),
                                        (7, (), ("deed", 0, "less", ("name", 0, "e"), ("num", 2, 5)))),
                                     ("early", 0, "i", ("name", 1, "a"), 2, ("now", 1, 2, "e", ("name", 0, "i"))))))),
    ("k", ("case", 0, ONE, "x.3", (), None)),
    ("z", ("fault", 2, "none")),
)
ADDRESSES = [("f", path) for path in [
    (), (0,), (0, 0), (0, 1), (0, 2), (0, 2, 0), (0, 2, 1), (0, 2, 2), (0, 2, 2, 0), (0, 2, 2, 1), (0, 2, 3), (0, 2, 3, 0),
    (0, 2, 3, 1), (0, 2, 3, 1, 0)]] + [("k", ()), ("k", (0,)), ("z", ())]


class Addresses(unittest.TestCase):

    def test_all_of_them_in_order(self):
        self.assertIsNone(program_wrong(FULL))
        self.assertEqual(addresses(FULL), ADDRESSES)
        self.assertEqual(addresses(program=program()), [])

    def test_part_at(self):
        case = FULL[2][0][1][3][3]
        for address, part in [(("f", ()), FULL[2][0][1]), (("f", (0, 0)), RIGHT["con"]), (("f", (0, 1)), ("name", 0, "c")),
                              (("f", (0, 2)), case), (("f", (0, 2, 0)), ("name", 2, "b.1")), (("f", (0, 2, 1)), case[4][0][2]),
                              (("f", (0, 2, 2)), case[4][1][2]), (("f", (0, 2, 2, 1)), ("num", 2, 5)),
                              (("f", (0, 2, 3)), case[5]), (("f", (0, 2, 3, 0)), ("name", 1, "a")),
                              (("f", (0, 2, 3, 1)), case[5][5]), (("f", (0, 2, 3, 1, 0)), ("name", 0, "i")),
                              (("k", (0,)), ONE), (("z", ()), ("fault", 2, "none"))]:
            self.assertEqual(part_at(FULL, address), part)
        self.assertEqual(part_at(program=FULL, address=("k", (0,))), ONE)

    def test_with_part(self):
        for address in ADDRESSES:
            for other in (ONE, None, [1], {}, ("x",), part_at(FULL, address)):
                before = repr(FULL)
                told = with_part(FULL, address, other)
                self.assertEqual(repr(FULL), before)
                self.assertEqual(told[:2], FULL[:2])
                self.assertEqual([x for x, _ in told[2]], ["f", "k", "z"])
                for one, new in zip(FULL, told):
                    self.assertIsNot(one, new)
                e = dict(told[2])[address[0]]
                self.assertEqual(e, put(dict(FULL[2])[address[0]], address[1], other))
                for (x, part), (_, new) in zip(FULL[2], told[2]):
                    if x != address[0]:
                        self.assertEqual(part, new)
                if other == part_at(FULL, address):
                    self.assertEqual(told, FULL)
        self.assertEqual(with_part(program=FULL, address=("z", ()), other=ONE)[2][2], ("z", ONE))

    def test_no_address(self):
        for thing in (None, 1, "f", [], (), ("f",), ("f", (), ()), ["f", ()], ("g", ()), ("f", [0]), ("f", None), ("f", 0),
                      ("f", (1,)), ("f", (-1,)), ("f", (False,)), ("f", (0, True)), ("f", (0, 3)), ("f", (0, 2, 4)),
                      ("f", (0, 2, -1)), ("f", ("0",)), ("f", (0.0,)), ("f", (None,)), ("f", (0, 0, 0)), ("f", ((0,),)),
                      ([], ()), ({}, ()), (["f"], ()), ("f", ([],)), ("f", ({},)), (("f",), ()), (None, ()), (1, ()), ("F", ()),
                      ("f.1", ()), ("k", (1,)), ("z", (0,)), ("c", ()), ("f", (0, 2, 1, 0)), ("f", (10 ** 50,)), {"f": ()},
                      ("k", (0, 0))):
            self.assertEqual(refusal(self, NoAddress, part_at, FULL, thing).address, thing)
            self.assertEqual(refusal(self, NoAddress, with_part, FULL, thing, ONE).address, thing)

    def test_no_program_ahead_of_no_address(self):
        for thing, wrong in [(None, ("program",)), (([None], {}, []), ("places", 0)), (top(None), ("part", ("f", ()))),
                             (top(("name", 0, "x")), ("free", ("f", ())))]:
            for function, *more in [(addresses,), (part_at, None), (part_at, ("f", ())), (with_part, None, ONE), (anew, ONE),
                                    (core_text,)]:
                self.assertEqual(refusal(self, NoProgram, function, thing, *more).wrong, wrong)

    def test_new_and_again(self):
        addresses(FULL).clear()
        self.assertEqual(addresses(FULL), ADDRESSES)
        told = with_part(FULL, ("z", ()), ONE)
        told[0].clear()
        told[1].clear()
        told[2].clear()
        self.assertEqual(addresses(FULL), ADDRESSES)
        self.assertEqual(FULL[0], PLACES)

    def test_long_paths(self):
        e = ONE
        for number in range(200):
            e = [wrapped(e), ("now", 0, 0, "a", e), ("fun", 0, (f"a.{number + 1}",), e)][number % 3]
        deep = top(e)
        address = addresses(deep)[-1]
        self.assertEqual(len(address[1]), 200)
        self.assertEqual(part_at(deep, address), ONE)
        self.assertEqual(part_at(with_part(deep, address, ("num", 0, 7)), address), ("num", 0, 7))
        self.assertEqual(named(e), [])
        self.assertEqual(read_core(core_text(deep)), deep)
        self.assertEqual(anew(deep, e)[0], "deed" if e[0] == "deed" else e[0])


def put(e, path, other):
    """Tells a part with another one at a path, by calls within calls."""
    if not path:
        return other
    at, rest = path[0], path[1:]
    if e[0] == "fun":
        return (*e[:3], put(e[3], rest, other))
    if e[0] == "let":
        if at == len(e[2]):
            return (*e[:3], put(e[3], rest, other))
        bindings = list(e[2])
        bindings[at] = (bindings[at][0], put(bindings[at][1], rest, other))
        return (*e[:2], tuple(bindings), e[3])
    if e[0] == "case":
        if at == 0:
            return (*e[:2], put(e[2], rest, other), *e[3:])
        if at > len(e[4]):
            return (*e[:5], put(e[5], rest, other))
        rows = list(e[4])
        rows[at - 1] = (*rows[at - 1][:2], put(rows[at - 1][2], rest, other))
        return (*e[:4], tuple(rows), e[5])
    spot = {"deed": (3, 4), "early": (3, 5), "now": (4,)}[e[0]][at]
    return (*e[:spot], put(e[spot], rest, other), *e[spot + 1:])


class Named(unittest.TestCase):

    def test_each_kind_of_part(self):
        def name(x):
            return ("name", 0, x)
        for e, wanted in [
                (ONE, []), (name("a"), ["a"]), (("con", 0, "Cons", (name("b"), name("a"))), ["a", "b"]),
                (("call", 0, name("c"), (ONE, name("a"))), ["a", "c"]), (("fault", 0, "none"), []),
                (("fun", 0, ("a",), wrapped(("con", 0, "Cons", (name("a"), name("b"))))), ["b"]),
                (("let", 0, (("a", name("b")), ("b", name("c"))), ("call", 0, name("a"), (name("d"),))), ["c", "d"]),
                (("case", 0, name("a"), "a", (("Cons", ("b", "c"), ("con", 0, "Cons", (name("a"), name("b")))),
                                              ("Nil", (), name("b"))), ("con", 0, "Cons", (name("a"), name("c")))),
                 ["a", "b", "c"]),
                (("case", 0, ONE, "a", (), name("a")), []),
                (("case", 0, ONE, "a", ((1, (), name("a")),), None), []),
                (("deed", 0, "plus", name("b"), name("a")), ["a", "b"]),
                (("early", 0, "a", name("a"), 0, name("b")), ["a", "b"]),
                (("early", 0, "a", ONE, 0, ("con", 0, "Cons", (name("a"), name("b")))), ["b"]),
                (("now", 0, 0, "a", name("b")), ["b"]), (("now", 0, 0, "a", ONE), []),
                (("call", 0, name("x.2"), (name("x.10"), name("x"), name("x.2"))), ["x", "x.10", "x.2"]),
                (("fun", 0, ("a",), ("fun", 0, ("b",), ("deed", 0, "plus", name("a"), name("b")))), []),
                (("deed", 0, "plus", ("fun", 0, ("a",), name("a")), name("a")), ["a"])]:
            self.assertEqual(named(e), wanted, e)
            self.assertEqual(named(e=wrapped(e)), wanted)

    def test_of_a_programs_parts(self):
        self.assertEqual(named(part_at(FULL, ("f", ()))), ["f"])
        self.assertEqual(named(part_at(FULL, ("f", (0,)))), ["a", "b.1", "f"])
        self.assertEqual(named(part_at(FULL, ("f", (0, 2)))), ["a", "b.1"])
        self.assertEqual(named(part_at(FULL, ("f", (0, 2, 3)))), ["a"])
        self.assertEqual(named(part_at(FULL, ("f", (0, 2, 3, 1)))), ["i"])


class Anew(unittest.TestCase):

    def test_numbers_left_free(self):
        def fun(*names):
            return ("fun", 0, names, ("con", 0, "Cons", (("name", 0, names[0]), ("name", 0, names[-1]))))
        one = program(("f", fun("a", "a.2", "b.1")), ("g", fun("a.4", "c", "a.1")))
        self.assertIsNone(program_wrong(one))
        self.assertEqual(anew(one, fun("a", "a.2", "b.1")), fun("a.3", "a.5", "b.2"))
        self.assertEqual(anew(one, fun("a.4", "c", "a.1")), fun("a.3", "c.1", "a.5"))
        self.assertEqual(anew(program=one, e=ONE), ONE)

    def test_a_name_without_a_point_is_not_just_that(self):
        one = top(("fun", 0, ("a",), ("name", 0, "a")))
        self.assertEqual(anew(one, one[2][0][1]), ("fun", 0, ("a.1",), ("name", 0, "a.1")))

    def test_tops_are_no_hindrance(self):
        one = program(("a", ("fun", 0, ("b",), ("call", 0, ("name", 0, "a"), (("name", 0, "b"),)))), ("b1", ONE))
        self.assertEqual(anew(one, one[2][0][1]), ("fun", 0, ("b.1",), ("call", 0, ("name", 0, "a"), (("name", 0, "b.1"),))))

    def test_each_kind_of_part_in_order(self):
        def e(a, b, c, d, x, g, h, i):
            def name(word):
                return ("name", 0, word)
            return ("fun", 0, (a, b), ("let", 1, ((c, ("con", 0, "Cons", (name(d), name("f")))), (d, name(c))), (
                "case", 0, name(b), x, (("Cons", (g, h), ("call", 0, name(g), (name(h), ("num", 0, 3)))),
                                        (7, (), ("deed", 0, "less", name(x), ONE))),
                ("early", 0, i, name(a), 2, ("now", 1, 2, "x", ("con", 0, "Cons", (name(i), name("f"))))))))
        one = top(e("x", "x.1", "x.3", "x.9", "x.10", "x.11", "x.5", "x.6"))
        self.assertIsNone(program_wrong(one))
        self.assertEqual(anew(one, one[2][0][1]), e("x.2", "x.4", "x.7", "x.8", "x.12", "x.13", "x.14", "x.15"))
        part = part_at(one, ("f", (0, 2)))
        told = anew(one, part)
        self.assertEqual((told[3], told[4][0][1], told[5][2]), ("x.2", ("x.4", "x.7"), "x.8"))
        self.assertEqual(told[2], ("name", 0, "x.1"))
        self.assertEqual(told[5][3], ("name", 0, "x"))
        self.assertEqual(told[5][5][3], "x")

    def test_what_it_does_not_bind_stays(self):
        one = top(("fun", 0, ("a",), ("fun", 0, ("b",), ("con", 0, "Cons", (("name", 0, "a"), ("name", 0, "b"))))))
        self.assertEqual(anew(one, one[2][0][1][3]),
                         ("fun", 0, ("b.1",), ("con", 0, "Cons", (("name", 0, "a"), ("name", 0, "b.1")))))

    def test_told_anew_it_may_stand_beside(self):
        for seed in range(40):
            one = core(printed(Grower(random.Random(seed), 3).tree(2)))
            x, e = one[2][-1]
            before = repr(one)
            told = anew(one, e)
            self.assertEqual(repr(one), before)
            self.assertEqual(anew(one, e), told)
            other = (one[0], one[1], [*one[2], ("beside", told)])
            self.assertIsNone(program_wrong(other))
            self.assertEqual(named(told), named(e))


class Texts(unittest.TestCase):

    def check(self, one):
        before = repr(one)
        text = core_text(one)
        self.assertEqual(repr(one), before)
        self.assertIsInstance(text, str)
        self.assertEqual(text, core_text(one))
        told = read_core(text)
        self.assertEqual(told, one)
        self.assertEqual(repr(told), before)
        self.assertFalse(text.endswith("\n"))
        return text.split("\n")

    def left_out(self, rows):
        for at in range(len(rows)):
            refusal(self, NoText, read_core, "\n".join(rows[:at] + rows[at + 1:]))

    def test_all_kinds_of_parts(self):
        for part in RIGHT.values():
            self.left_out(self.check(top(part)))
            self.left_out(self.check(top(wrapped(part))))
        self.left_out(self.check(FULL))

    def test_programs_with_little_in_them(self):
        for one in (([], {}, []), program(), program(places=[]), ([(SIXTY - 1, 1)], {}, []), ([], dict(DATA), [])):
            self.left_out(self.check(one))

    def test_one_row_a_place_a_lot_a_part(self):
        rows = self.check(FULL)
        self.assertGreaterEqual(len(rows), len(PLACES) + len(DATA) + len(ADDRESSES))

    def test_great_numbers_and_long_names(self):
        long_name = "a" * 100 + "." + "9" * 60
        self.check(top(("fun", 0, (long_name, "a" * 100), ("con", 0, "Cons", (("num", 0, SIXTY - 1), ("name", 0, long_name))))))
        self.check(top(("case", 0, ONE, "a", ((SIXTY - 1, (), ONE), (0, (), ONE)), None)))
        self.check(top(("fun", 0, ("b." + "7" * 90,), ONE)))

    def test_words_that_look_like_others(self):
        self.check(top(("fun", 0, ("none", "other", "num", "name", "top", "lot", "core"), ("case", 0, ("name", 0, "none"), "place", (
            ("Cons", ("case", "let"), ("name", 0, "other")),), ("name", 0, "place")))))
        self.check(program(("top", ONE), ("none", ("fault", 0, "other"))))

    def test_all_data(self):
        data = {**DATA, "A": (("A", 3), ("B", 0)), "B": (("A", 3), ("B", 0)), "C9": (("C9", 60),)}
        self.left_out(self.check(program(("f", ("con", 0, "A", (ONE,) * 3)), data=data)))

    def test_cores_of_texts(self):
        for seed in range(25):
            rows = self.check(core(printed(Grower(random.Random(seed), 3).tree(2))))
            chance = random.Random(seed)
            for at in [0, 1, len(rows) - 1] + [chance.randrange(len(rows)) for _ in range(10)]:
                refusal(self, NoText, read_core, "\n".join(rows[:at] + rows[at + 1:]))
        self.assertEqual(read_core(text=core_text(program=FULL)), FULL)

    def test_other_texts(self):
        for text in ("", "\n", "core", "core 0 0 0", "core 0 0 0 1", "core 1 0 0 1\nplace 0 1", "core 0 0 1 2\ntop f\nnum 0 1",
                     "core 1 0 1 3\nplace 1 1\ntop f\nnum 0", "core 1 0 1 3\nplace 1 1\ntop f\nno 0 1", "core 0 0 0 0 ",
                     "core 1 0 1 3\nplace 1 1\ntop f\nnum 0 01", "core 1 0 1 3\nplace 1 1\ntop f\ncon 0 Nil", "core a 0 0 0",
                     "core 1 0 1 3\nplace 1 1\ntop f\ncase 0 x none A 9", "core 1 0 1 4\nplace 1 1\ntop f\nnum 0 1\nnum 0 1",
                     "core 1 0 1 3\nplace 1 1\ntop f\ncall 0 num 0 1 num 0 1", "core 0 0 1 1\ntop f",
                     "core 1 0 1 3\nplace 1 1\ntop f\ncase 0 x none -",
                     "core 1 0 1 3\nplace 1 1\ntop f\ncase 0 x none - 0", "core 2 0 0 1\nplace 1 1",
                     "core 1 0 1 2\nplace 1 1\ntop f", "core 0 1 0 1\nplace 1 1"):
            refusal(self, NoText, read_core, text)
        told = read_core(core_text(FULL))
        told[0].clear()
        self.assertEqual(read_core(core_text(FULL)), FULL)


if __name__ == "__main__":
    unittest.main()
