"""Turnings by hand: each rule, done and barred, forms that are none, what would be too great (24, 26)."""

import inspect
import unittest

from slumberway import turns as turns_file
from slumberway.cores import addresses, part_at, program_wrong
from slumberway.errors import NoProgram, NoTurn
from slumberway.machines import by_name, shared
from slumberway.turns import all_turned, rows_wrong, turn_wrong, turned
from tests.helper import refusal
from tests.second_turns import Turning, all_second

TRUTH = (("False", 0), ("True", 0))
LIST = (("Nil", 0), ("Cons", 2))
DATA = {"False": TRUTH, "True": TRUTH, "Nil": LIST, "Cons": LIST, "Box": (("Box", 1),), "Big": (("Big", 60),)}
PLACES = [(number + 1, 1) for number in range(60)]
ONE = ("num", 0, 1)
NIL = ("con", 0, "Nil", ())
SLOW = ("deed", 0, "plus", ONE, ONE)
SIXTY = 10 ** 60


def name(p, x):
    return ("name", p, x)


def num(p, n):
    return ("num", p, n)


def deed(p, one, other, word="plus"):
    return ("deed", p, word, one, other)


def program(**tops):
    return (list(PLACES), dict(DATA), list(tops.items()))


class Turned(unittest.TestCase):

    def wrong(self, one, turn, *wanted):
        """A turn that may not be done."""
        self.assertIsNone(program_wrong(one))
        self.assertEqual(turn_wrong(one, turn), wanted)
        self.assertEqual(Turning(one).wrong(turn)[0], wanted)
        self.assertEqual(refusal(self, NoTurn, turned, one, turn).wrong, wanted)
        self.assertEqual(rows_wrong(one, [turn]), 0)

    def why(self, one, turn, word):
        self.wrong(one, turn, "why", word)

    def done(self, one, turn, e, x="x"):
        """A turn that may be done: x's part is e behind it, all else stays."""
        self.assertIsNone(program_wrong(one))
        before = repr(one)
        self.assertIsNone(turn_wrong(one, turn))
        told = turned(one, turn)
        self.assertEqual(repr(one), before)
        self.assertEqual(told, (one[0], one[1], [(y, e if x == y else part) for y, part in one[2]]))
        self.assertEqual(told, Turning(one).turned(turn))
        self.assertIsNone(program_wrong(told))
        for old, new in zip(one, told):
            self.assertIsNot(old, new)
        self.assertIsNone(rows_wrong(one, [turn]))
        self.no_more(one, told)
        return told

    def no_more(self, one, told):
        for x, _ in one[2]:
            by = by_name(one, x, most=400)
            if by[0][0] == "long" or by[0][:2] == ("fault", "kind"):
                continue
            ahead, behind = shared(one, x, most=400), shared(told, x, most=400)
            self.assertEqual(behind[0], by[0])
            self.assertEqual(by_name(told, x, most=400)[0], by[0])
            counts = {p: counts for p, *counts in ahead[1]}
            self.assertTrue(all(few <= many for p, *fews in behind[1] for few, many in zip(fews, counts[p])))


class Forms(Turned):

    LET = program(x=("let", 1, (("a", SLOW), ("b", NIL)), name(2, "a")))

    def test_no_turns(self):
        for turn in (None, 1, "drop", (), [], ("drop",), ("drop", ("x", ())), ("drop", ("x", ()), 0, 0), ["drop", ("x", ()), 1],
                     ("Drop", ("x", ()), 1), ("no", ("x", ())), (None, ("x", ())), (1, ("x", ())), (["drop"], ("x", ()), 1),
                     ("known",), ("known", ("x", ()), 0), ("put", ("x", ()), 0), ("past", ("x", ()), 0), ("early", ("x", ()), 0),
                     ("once", ("x", ())), ("drop", ("x", ()), -1), ("drop", ("x", ()), True), ("drop", ("x", ()), False),
                     ("drop", ("x", ()), None), ("drop", ("x", ()), "0"), ("drop", ("x", ()), 1.0), ("drop", ("x", ()), SIXTY),
                     ("once", ("x", ()), SIXTY), ("once", ("x", ()), True), ("drop", None, -1), {"drop": 1}, ("drop", None, [1])):
            self.wrong(self.LET, turn, "turn")

    def test_no_addresses(self):
        for address in (None, 1, "x", (), [], ("x",), ("x", (), ()), ["x", ()], ("y", ()), ("x", [0]), ("x", (3,)), ("x", (-1,)),
                        ("x", (True,)), ("x", (0, 2)), (["x"], ()), ("x", ("0",)), ("x", (0, 0, 0)), {}, ("a", ())):
            for turn in (("drop", address, 0), ("once", address, SIXTY - 1), ("known", address), ("put", address), ("past", address),
                         ("early", address)):
                self.wrong(self.LET, turn, "address")

    def test_no_rules(self):
        one = program(x=("let", 1, (("a", SLOW), ("b", ("case", 2, ONE, "c", (), ONE))), ("call", 3, name(2, "f"), (ONE,))),
                      f=("fun", 3, ("d",), name(4, "d")))
        for rule, word in [("known", "case"), ("past", "let"), ("put", "call"), ("early", "let")]:
            for address in addresses(one):
                if part_at(one, address)[0] != word:
                    self.wrong(one, (rule, address), "rule")
        for rule in ("drop", "once"):
            self.wrong(one, (rule, ("f", ()), 0), "rule")
            self.wrong(one, (rule, ("x", ()), 2), "rule")
            self.wrong(one, (rule, ("x", ()), SIXTY - 1), "rule")

    def test_no_program_ahead_of_all(self):
        for function in (turn_wrong, turned):
            self.assertEqual(refusal(self, NoProgram, function, None, None).wrong, ("program",))
        self.assertEqual(refusal(self, NoProgram, rows_wrong, program(x=None), [None]).wrong, ("part", ("x", ())))
        self.assertEqual(refusal(self, NoProgram, all_turned, program(x=name(0, "y"))).wrong, ("free", ("x", ())))

    def test_by_names_new_and_again(self):
        one, turn = self.LET, ("drop", ("x", ()), 1)
        self.assertIsNone(turn_wrong(program=one, turn=turn))
        told = turned(program=one, turn=turn)
        told[0].clear()
        told[1].clear()
        told[2].clear()
        self.assertEqual(turned(one, turn)[0], PLACES)
        self.assertIsNone(rows_wrong(program=one, turns=[turn]))
        program_told, turns = all_turned(program=one, most=5)
        turns.clear()
        program_told[2].clear()
        self.assertEqual(len(all_turned(one, most=5)[1]), 2)
        self.assertEqual(str(inspect.signature(all_turned)), "(program, *, most=200)")
        for word, signature in [("turn_wrong", "(program, turn)"), ("turned", "(program, turn)"), ("rows_wrong", "(program, turns)")]:
            function = getattr(turns_file, word)
            self.assertEqual((str(inspect.signature(function)), function.__module__), (signature, turns_file.__name__))


class Drop(Turned):

    def test_done(self):
        e = ("let", 1, (("a", SLOW), ("b", NIL)), name(2, "a"))
        self.done(program(x=e), ("drop", ("x", ()), 1), ("let", 1, (("a", SLOW),), name(2, "a")))
        e = ("let", 1, (("a", SLOW), ("b", NIL)), name(2, "b"))
        self.done(program(x=e), ("drop", ("x", ()), 0), ("let", 1, (("b", NIL),), name(2, "b")))

    def test_the_last_binding_and_the_let_with_it(self):
        e = ("let", 1, (("a", SLOW),), num(2, 5))
        self.done(program(x=e), ("drop", ("x", ()), 0), num(2, 5))
        self.done(program(x=deed(3, ONE, e)), ("drop", ("x", (1,)), 0), deed(3, ONE, num(2, 5)))

    def test_a_name_named_in_its_own_part_alone(self):
        e = ("let", 1, (("a", ("call", 2, name(3, "a"), (name(4, "a"),))),), num(2, 5))
        self.done(program(x=e), ("drop", ("x", ()), 0), num(2, 5))

    def test_named(self):
        for e in (name(2, "a"), ("con", 2, "Box", (name(3, "a"),)), ("call", 2, name(3, "a"), (ONE,)), deed(2, ONE, name(3, "a")),
                  ("fun", 2, ("c",), name(3, "a"))):
            self.why(program(x=("let", 1, (("a", SLOW),), e)), ("drop", ("x", ()), 0), "named")
            self.why(program(x=("let", 1, (("a", SLOW), ("b", e)), ONE)), ("drop", ("x", ()), 0), "named")
        # A now's name is none.
        e = ("let", 1, (("a", SLOW),), ("now", 2, 3, "a", ONE))
        self.done(program(x=e), ("drop", ("x", ()), 0), ("now", 2, 3, "a", ONE))

    def test_two_that_name_one_another(self):
        e = ("let", 1, (("a", name(2, "b")), ("b", name(3, "a"))), ONE)
        self.why(program(x=e), ("drop", ("x", ()), 0), "named")
        self.why(program(x=e), ("drop", ("x", ()), 1), "named")


class Known(Turned):

    def case(self, e, *alternatives, other=None):
        return ("case", 1, e, "y", alternatives, other)

    def test_of_a_con(self):
        both = deed(5, name(6, "b"), name(7, "c"))
        alternatives = (("Nil", (), num(4, 3)), ("Cons", ("b", "c"), both))
        self.done(program(x=self.case(NIL, *alternatives)), ("known", ("x", ())), num(4, 3))
        e = ("let", 8, (("u", SLOW), ("v", SLOW)), self.case(("con", 2, "Cons", (name(3, "u"), name(9, "v"))), *alternatives))
        self.done(program(x=e), ("known", ("x", (2,))), ("let", 8, (("u", SLOW), ("v", SLOW)), deed(5, name(6, "u"), name(7, "v"))))

    def test_num_atoms_are_bound_around_as_far_as_they_are_named(self):
        e = self.case(("con", 2, "Cons", (num(3, 7), num(4, 8))), ("Cons", ("b", "c"), deed(5, name(6, "c"), name(7, "b"))))
        self.done(program(x=e), ("known", ("x", ())),
                  ("let", 1, (("b", num(3, 7)), ("c", num(4, 8))), deed(5, name(6, "c"), name(7, "b"))))
        e = self.case(("con", 2, "Cons", (num(3, 7), num(4, 8))), ("Cons", ("b", "c"), deed(5, name(6, "c"), ONE)))
        self.done(program(x=e), ("known", ("x", ())), ("let", 1, (("c", num(4, 8)),), deed(5, name(6, "c"), ONE)))
        e = self.case(("con", 2, "Cons", (num(3, 7), num(4, 8))), ("Cons", ("b", "c"), num(5, 2)))
        self.done(program(x=e), ("known", ("x", ())), num(5, 2))

    def test_x_ahead_of_the_names(self):
        con = ("con", 2, "Cons", (num(3, 7), name(4, "x")))
        e = self.case(con, ("Cons", ("b", "c"), ("con", 5, "Cons", (name(6, "b"), name(7, "y")))))
        self.done(program(x=e), ("known", ("x", ())),
                  ("let", 1, (("y", con), ("b", num(3, 7))), ("con", 5, "Cons", (name(6, "b"), name(7, "y")))))

    def test_of_a_num(self):
        e = self.case(num(2, 7), (7, (), deed(3, name(4, "y"), ONE)), (8, (), ONE))
        self.done(program(x=e), ("known", ("x", ())), ("let", 1, (("y", num(2, 7)),), deed(3, name(4, "y"), ONE)))
        e = self.case(num(2, 7), (7, (), num(3, 4)))
        self.done(program(x=e), ("known", ("x", ())), num(3, 4))

    def test_other_and_none(self):
        for e in (num(2, 9), NIL):
            one = self.case(e, (7, (), ONE), ("True", (), ONE), other=deed(3, name(4, "y"), ONE))
            self.done(program(x=one), ("known", ("x", ())), ("let", 1, (("y", e),), deed(3, name(4, "y"), ONE)))
            self.done(program(x=self.case(e, (7, (), ONE), other=num(3, 5))), ("known", ("x", ())), num(3, 5))
            self.done(program(x=self.case(e, (7, (), ONE))), ("known", ("x", ())), ("fault", 1, "none"))
            self.done(program(x=self.case(e)), ("known", ("x", ())), ("fault", 1, "none"))

    def test_of_names_bound_by_lets_and_tops(self):
        con = ("con", 2, "Cons", (num(3, 7), name(4, "u")))
        case = self.case(name(5, "k"), ("Cons", ("b", "c"), ("con", 6, "Cons", (name(7, "b"), name(8, "c")))))
        told = ("let", 1, (("b", num(3, 7)),), ("con", 6, "Cons", (name(7, "b"), name(8, "u"))))
        self.done(program(x=case, k=con, u=NIL), ("known", ("x", ())), told)
        let = ("let", 9, (("k", con), ("u", SLOW)), case)
        self.done(program(x=let), ("known", ("x", (2,))), ("let", 9, (("k", con), ("u", SLOW)), told))
        case = self.case(name(5, "k"), (7, (), deed(6, name(7, "y"), ONE)), other=name(8, "y"))
        self.done(program(x=case, k=num(2, 7)), ("known", ("x", ())), deed(6, name(7, "k"), ONE))
        self.done(program(x=case, k=NIL), ("known", ("x", ())), name(8, "k"))
        self.done(program(x=("let", 9, (("k", num(2, 8)),), case)), ("known", ("x", (1,))), ("let", 9, (("k", num(2, 8)),), name(8, "k")))

    def test_of_an_x_of_a_case_around(self):
        inner = ("case", 2, name(3, "y"), "z", (("Cons", ("d", "e"), deed(4, name(5, "d"), name(6, "z"))), ("Nil", (), ONE)), None)
        outer = self.case(SLOW, ("Cons", ("b", "c"), inner), ("Nil", (), ONE), (3, (), ONE))
        told = self.case(SLOW, ("Cons", ("b", "c"), deed(4, name(5, "b"), name(6, "y"))), ("Nil", (), ONE), (3, (), ONE))
        self.done(program(x=outer), ("known", ("x", (1,))), told)
        # Of a number; further in; below a fun.
        outer = self.case(SLOW, (3, (), ("fun", 7, ("w",), deed(8, ONE, ("case", 2, name(3, "y"), "z", ((3, (), name(4, "z")),), None)))))
        told = self.case(SLOW, (3, (), ("fun", 7, ("w",), deed(8, ONE, name(4, "y")))))
        self.done(program(x=outer), ("known", ("x", (1, 0, 1))), told)
        outer = self.case(SLOW, (3, (), ("case", 2, name(3, "y"), "z", ((4, (), ONE),), None)))
        self.done(program(x=outer), ("known", ("x", (1,))), self.case(SLOW, (3, (), ("fault", 2, "none"))))
        # In other nothing is known.
        inner = ("case", 2, name(3, "y"), "z", ((4, (), ONE),), ONE)
        self.why(program(x=self.case(SLOW, (3, (), ONE), other=inner)), ("known", ("x", (2,))), "unknown")

    def test_unknown(self):
        for e in (SLOW, name(2, "w"), ("fun", 2, ("d",), ONE), ("let", 2, (("d", NIL),), name(3, "d")), ("call", 2, name(3, "f"), (ONE,)),
                  ("case", 2, NIL, "d", (), NIL), ("now", 2, 3, "d", NIL), ("early", 2, "d", NIL, 3, NIL), ("fault", 2, "none"),
                  name(2, "f")):
            self.why(program(x=self.case(e, other=ONE), w=SLOW, f=("fun", 4, ("g",), ONE)), ("known", ("x", ())), "unknown")
        # Names of funs, alternatives, earlies, lets' things that wait.
        self.why(program(x=("fun", 2, ("d",), self.case(name(3, "d"), other=ONE))), ("known", ("x", (0,))), "unknown")
        self.why(program(x=("early", 2, "d", NIL, 4, self.case(name(3, "d"), other=ONE))), ("known", ("x", (1,))), "unknown")
        self.why(program(x=("let", 2, (("d", SLOW),), self.case(name(3, "d"), other=ONE))), ("known", ("x", (1,))), "unknown")
        outer = ("case", 2, SLOW, "d", (("Cons", ("b", "c"), self.case(name(3, "b"), other=ONE)),), None)
        self.why(program(x=outer), ("known", ("x", (1,))), "unknown")

    def test_a_now_s_name_stays(self):
        e = self.case(num(2, 7), other=("now", 3, 4, "y", ONE))
        self.done(program(x=e), ("known", ("x", ())), ("now", 3, 4, "y", ONE))

    def test_names_within_lets_cases_and_funs(self):
        inside = ("let", 10, (("d", name(11, "y")), ("e", ("fun", 12, ("g",), ("call", 13, name(14, "b"), (name(15, "y"), name(16, "g")))))),
                  ("case", 17, name(18, "b"), "h", (("Box", ("i",), name(19, "c")),), ("early", 20, "j", name(21, "c"), 22, name(23, "y"))))
        e = ("fun", 24, ("u", "v"), self.case(name(2, "k"), ("Cons", ("b", "c"), inside)))
        one = program(x=e, k=("con", 2, "Cons", (name(3, "m"), name(4, "n"))), m=SLOW, n=SLOW)
        told = ("let", 10, (("d", name(11, "k")), ("e", ("fun", 12, ("g",), ("call", 13, name(14, "m"), (name(15, "k"), name(16, "g")))))),
                ("case", 17, name(18, "m"), "h", (("Box", ("i",), name(19, "n")),), ("early", 20, "j", name(21, "n"), 22, name(23, "k"))))
        self.done(one, ("known", ("x", (0,))), ("fun", 24, ("u", "v"), told))


class Put(Turned):

    FUN = ("fun", 1, ("a", "b.1"), deed(2, name(3, "a"), name(4, "b.1")))

    def test_done(self):
        e = ("let", 5, (("u", SLOW), ("v", SLOW)), ("call", 6, name(7, "f"), (name(8, "u"), name(9, "v"))))
        self.done(program(x=e, f=self.FUN), ("put", ("x", (2,))),
                  ("let", 5, (("u", SLOW), ("v", SLOW)), deed(2, name(3, "u"), name(4, "v"))))
        let = ("let", 5, (("f", self.FUN), ("v", SLOW)), ("call", 6, name(7, "f"), (name(8, "v"), name(9, "v"))))
        self.done(program(x=let), ("put", ("x", (2,))),
                  ("let", 5, (("f", self.FUN), ("v", SLOW)), deed(2, name(3, "v"), name(4, "v"))))

    def test_num_atoms_are_bound_also_where_they_are_not_named(self):
        e = ("call", 6, name(7, "f"), (num(8, 5), num(9, 6)))
        self.done(program(x=e, f=self.FUN), ("put", ("x", ())),
                  ("let", 6, (("a.1", num(8, 5)), ("b.2", num(9, 6))), deed(2, name(3, "a.1"), name(4, "b.2"))))
        fun = ("fun", 1, ("a", "b"), num(2, 7))
        self.done(program(x=e, f=fun), ("put", ("x", ())), ("let", 6, (("a.1", num(8, 5)), ("b.1", num(9, 6))), num(2, 7)))

    def test_told_anew(self):
        fun = ("fun", 1, ("a", "a.2"), ("let", 2, (("a.4", name(3, "a")), ("c", ("fun", 4, ("d",), name(5, "a.2")))), (
            "case", 6, name(7, "a.4"), "e", (("Cons", ("g", "h"), ("call", 8, name(9, "c"), (name(10, "g"),))),),
            ("early", 11, "i", name(12, "e"), 13, ("now", 14, 15, "a", name(16, "i"))))))
        e = ("call", 20, name(21, "f"), (name(22, "w"), num(23, 4)))
        # a.1 goes to a, which w then takes the stead of; a.3 to a.2, a.5 to a.4.
        self.done(program(x=e, f=fun, w=SLOW), ("put", ("x", ())), ("let", 20, (("a.3", num(23, 4)),), (
            "let", 2, (("a.5", name(3, "w")), ("c.1", ("fun", 4, ("d.1",), name(5, "a.3")))), (
                "case", 6, name(7, "a.5"), "e.1", (("Cons", ("g.1", "h.1"), ("call", 8, name(9, "c.1"), (name(10, "g.1"),))),),
                ("early", 11, "i.1", name(12, "e.1"), 13, ("now", 14, 15, "a", name(16, "i.1")))))))

    def test_within_its_own_part(self):
        fun = ("fun", 1, ("a", "b"), ("case", 2, name(3, "a"), "c", ((0, (), name(4, "b")),), ("call", 5, name(6, "f"), (
            name(7, "b"), name(8, "a")))))
        one = program(x=("call", 20, name(21, "f"), (num(22, 0), num(23, 5))), f=fun)
        inner = ("case", 2, name(3, "b"), "c.1", ((0, (), name(4, "a")),), ("call", 5, name(6, "f"), (name(7, "a"), name(8, "b"))))
        self.done(one, ("put", ("f", (0, 2))), ("fun", 1, ("a", "b"), ("case", 2, name(3, "a"), "c", ((0, (), name(4, "b")),), inner)), "f")

    def test_unknown(self):
        for e in (SLOW, NIL, ONE, ("let", 2, (("d", ONE),), ("fun", 3, ("e",), ONE))):
            self.why(program(x=("call", 6, name(7, "w"), (ONE,)), w=e), ("put", ("x", ())), "unknown")
        self.why(program(x=("fun", 2, ("d",), ("call", 6, name(7, "d"), (ONE,)))), ("put", ("x", (0,))), "unknown")
        e = ("case", 2, ("fun", 3, ("e",), ONE), "d", (), ("call", 6, name(7, "d"), (ONE,)))
        self.why(program(x=e), ("put", ("x", (1,))), "unknown")
        e = ("early", 2, "d", ("fun", 3, ("e",), ONE), 4, ("call", 6, name(7, "d"), (ONE,)))
        self.why(program(x=e), ("put", ("x", (1,))), "unknown")

    def test_count(self):
        for many in (1, 3):
            self.why(program(x=("call", 6, name(7, "f"), (ONE,) * many), f=self.FUN), ("put", ("x", ())), "count")


class Past(Turned):

    def case(self, e, one, other, behind=None):
        return ("case", 2, e, "c", (("Nil", (), one), ("Cons", ("d", "e"), other)), behind)

    def test_done(self):
        bindings = (("a", SLOW),)
        for at, parts in enumerate([(name(3, "a"), ONE, ONE), (ONE, deed(3, name(4, "a"), name(5, "a")), ONE), (ONE, ONE, name(3, "a"))]):
            told = list(parts)
            told[at] = ("let", 1, bindings, parts[at])
            self.done(program(x=("let", 1, bindings, self.case(NIL, *parts))), ("past", ("x", ())), self.case(NIL, *told))
        # What it is bound to may be anything, a head, too.
        bindings = (("a", ("fun", 4, ("g",), ONE)),)
        self.done(program(x=("let", 1, bindings, self.case(NIL, name(3, "a"), ONE))), ("past", ("x", ())),
                  self.case(NIL, ("let", 1, bindings, name(3, "a")), ONE))

    def test_group(self):
        case = self.case(NIL, name(3, "a"), ONE)
        self.why(program(x=("let", 1, (("a", SLOW), ("b", SLOW)), case)), ("past", ("x", ())), "group")
        self.why(program(x=("let", 1, (("a", deed(4, name(5, "a"), ONE)),), case)), ("past", ("x", ())), "group")
        self.why(program(x=("let", 1, (("a", deed(4, name(5, "a"), ONE)),), ONE)), ("past", ("x", ())), "group")

    def test_case(self):
        for e in (ONE, name(2, "a"), deed(2, self.case(NIL, name(3, "a"), ONE), ONE)):
            self.why(program(x=("let", 1, (("a", SLOW),), e)), ("past", ("x", ())), "case")

    def test_named(self):
        bindings = (("a", SLOW),)
        for case in (self.case(name(4, "a"), ONE, ONE), self.case(name(4, "a"), name(5, "a"), ONE), self.case(NIL, name(3, "a"), name(4, "a")),
                     self.case(NIL, ONE, name(3, "a"), name(4, "a")), self.case(NIL, ONE, ONE), ("case", 2, NIL, "c", (), None)):
            self.why(program(x=("let", 1, bindings, case)), ("past", ("x", ())), "named")


class Once(Turned):

    def test_done(self):
        self.done(program(x=("let", 1, (("a", SLOW),), name(2, "a"))), ("once", ("x", ()), 0), ("now", 2, 1, "a", SLOW))
        e = ("let", 1, (("a", SLOW), ("b", SLOW)), deed(3, name(4, "b"), name(5, "a")))
        self.done(program(x=e), ("once", ("x", ()), 1), ("let", 1, (("a", SLOW),), deed(3, ("now", 4, 1, "b", SLOW), name(5, "a"))))

    def test_places_where_it_may_stand(self):
        def wrap(e):
            return ("let", 1, (("a", SLOW),), e)
        for around in (lambda e: ("case", 3, e, "c", (), ONE), lambda e: ("case", 3, NIL, "c", (("Nil", (), e),), None),
                       lambda e: ("case", 3, NIL, "c", (), e), lambda e: ("early", 3, "c", e, 4, ONE), lambda e: ("early", 3, "c", ONE, 4, e),
                       lambda e: ("now", 3, 4, "c", e), lambda e: ("let", 3, (("c", SLOW),), e),
                       lambda e: ("let", 3, (("c", SLOW), ("g", NIL)), deed(5, ONE, e))):
            self.done(program(x=wrap(around(name(2, "a")))), ("once", ("x", ()), 0), around(("now", 2, 1, "a", SLOW)))
        # Deeper in, within a top's fun and a let's binding's part, which are around the let.
        one = program(x=("fun", 6, ("u",), ("let", 7, (("w", wrap(name(2, "a"))),), name(8, "w"))))
        self.done(one, ("once", ("x", (0, 0)), 0), ("fun", 6, ("u",), ("let", 7, (("w", ("now", 2, 1, "a", SLOW)),), name(8, "w"))))

    def test_head(self):
        for e in (ONE, NIL, ("fun", 3, ("c",), ONE)):
            self.why(program(x=("let", 1, (("a", e),), name(2, "a"))), ("once", ("x", ()), 0), "head")
            self.why(program(x=("let", 1, (("a", e),), ONE)), ("once", ("x", ()), 0), "head")

    def test_named(self):
        for e in (ONE, deed(2, name(3, "a"), name(4, "a")), ("con", 2, "Box", (name(3, "a"),)), ("call", 2, name(3, "f"), (name(4, "a"),)),
                  ("call", 2, name(3, "a"), (ONE,)), ("fun", 2, ("c",), name(3, "a")), ("let", 2, (("c", name(3, "a")),), ONE),
                  ("let", 2, (("c", ("fun", 4, ("d",), name(3, "a"))),), ONE), deed(2, ONE, ("fun", 3, ("c",), deed(4, ONE, name(5, "a"))))):
            self.why(program(x=("let", 1, (("a", SLOW),), e), f=("fun", 5, ("g",), ONE)), ("once", ("x", ()), 0), "named")
        # In a binding's part, its own or another one's.
        self.why(program(x=("let", 1, (("a", deed(2, name(3, "a"), ONE)),), ONE)), ("once", ("x", ()), 0), "named")
        self.why(program(x=("let", 1, (("a", SLOW), ("b", name(3, "a"))), ONE)), ("once", ("x", ()), 0), "named")
        self.why(program(x=("let", 1, (("a", SLOW), ("b", name(3, "a"))), name(4, "a"))), ("once", ("x", ()), 0), "named")


class Early(Turned):

    def test_done(self):
        e = deed(2, name(3, "a"), name(4, "a"))
        self.done(program(x=("let", 1, (("a", SLOW),), e)), ("early", ("x", ())), ("early", 1, "a", SLOW, 3, e))
        e = ("call", 2, name(3, "f"), (name(4, "a"),))
        self.done(program(x=("let", 1, (("a", SLOW),), e), f=("fun", 5, ("b",), deed(6, name(7, "b"), ONE))), ("early", ("x", ())),
                  ("early", 1, "a", SLOW, 7, e))
        e = ("case", 2, ONE, "c", ((1, (), name(3, "a")),), deed(4, name(3, "a"), ONE))
        self.done(program(x=("let", 1, (("a", SLOW),), e)), ("early", ("x", ())), ("early", 1, "a", SLOW, 3, e))

    def test_group(self):
        e = name(2, "a")
        self.why(program(x=("let", 1, (("a", SLOW), ("b", SLOW)), e)), ("early", ("x", ())), "group")
        self.why(program(x=("let", 1, (("a", deed(4, name(5, "a"), ONE)),), e)), ("early", ("x", ())), "group")
        self.why(program(x=("let", 1, (("a", NIL), ("b", SLOW)), e)), ("early", ("x", ())), "group")

    def test_head(self):
        for part in (ONE, NIL, ("fun", 3, ("c",), ONE)):
            self.why(program(x=("let", 1, (("a", part),), name(2, "a"))), ("early", ("x", ())), "head")

    def test_first(self):
        for e in (ONE, name(2, "w"), deed(2, name(3, "w"), name(4, "a")), ("fun", 2, ("c",), name(3, "a")), ("con", 2, "Box", (name(3, "a"),)),
                  ("let", 2, (("b", name(3, "a")),), name(4, "b")), ("call", 2, name(3, "a"), (ONE,)), ("now", 2, 3, "c", name(4, "a"))):
            self.why(program(x=("let", 1, (("a", SLOW),), e), w=SLOW), ("early", ("x", ())), "first")


class Great(Turned):

    def wide(self, many):
        """A part of just so many parts, an odd number."""
        if many == 1:
            return ONE
        half = (many - 1) // 2
        half += 1 - half % 2
        return deed(0, self.wide(half), self.wide(many - 1 - half))

    def filled(self, one, many):
        """A program of just so many parts, by tops more."""
        left = many - len(addresses(one))
        one[2].append(("z", self.wide(left if left % 2 else left - 1)))
        if left % 2 == 0:
            one[2].append(("v", ONE))
        self.assertEqual(len(addresses(one)), many)
        return one

    def test_too_many_parts(self):
        # A call gives way to the 997 parts of a fun's e.
        fun = ("fun", 1, ("a",), self.wide(997))
        call = ("call", 2, name(3, "f"), (name(4, "w"),))
        one = self.filled(program(x=deed(5, call, ONE), f=fun, w=SLOW), 4000 + 1 - 997)
        turn = ("put", ("x", (0,)))
        self.assertIsNone(turn_wrong(one, turn))
        self.assertEqual(len(addresses(turned(one, turn))), 4000)
        one = self.filled(program(x=deed(5, call, ONE), f=fun, w=SLOW), 4000 + 2 - 997)
        self.wrong(one, turn, "great")

    def test_known_may_come_to_more_parts(self):
        many = tuple(f"a.{number}" for number in range(1, 61))
        con = ("con", 2, "Big", tuple(num(3, number) for number in range(60)))
        e = ("call", 4, name(5, "f"), tuple(name(6, x) for x in many[:60]))
        case = ("case", 1, name(7, "k"), "y", (("Big", many, e),), None)
        fun = ("fun", 1, tuple(f"b.{number}" for number in range(1, 61)), ONE)
        for extra, wanted in [(0, None), (1, ("great",))]:
            # The case, its e and its part become a let of sixty bindings and that part.
            one = self.filled(program(x=case, k=con, f=fun), 4000 + extra + 3 - 62)
            self.assertEqual(turn_wrong(one, ("known", ("x", ()))), wanted)

    def test_too_long_paths(self):
        def deep(e, many):
            for number in range(many):
                e = ("now", 0, 0, "z", e)
            return e
        fun = ("fun", 1, ("a",), deep(name(2, "a"), 100))
        for many, wanted in [(100, None), (101, ("great",))]:
            one = program(x=deep(("call", 3, name(4, "f"), (name(5, "w"),)), many), f=fun, w=SLOW)
            self.assertEqual(turn_wrong(one, ("put", ("x", (0,) * many))), wanted)
        for many, wanted in [(89, None), (90, ("great",))]:
            # The path to the name, and behind it the part's own: 10 + many + 1 + 99 + 1.
            one = program(x=deep(("let", 3, (("a", deep(SLOW, 99)),), deep(name(4, "a"), many)), 10), w=SLOW)
            turn = ("once", ("x", (0,) * 10), 0)
            self.assertEqual(turn_wrong(one, turn), wanted)
            self.assertEqual(Turning(one).wrong(turn)[0], wanted)
        for many, wanted in [(97, None), (98, ("great",))]:
            # Past a case the binding's part stands one further in: 100 + 2 + many + 1.
            let = ("let", 3, (("a", deep(SLOW, many)),), ("case", 4, NIL, "b", (), name(5, "a")))
            one = program(x=deep(let, 100))
            turn = ("past", ("x", (0,) * 100))
            self.assertEqual(turn_wrong(one, turn), wanted)
            self.assertEqual(Turning(one).wrong(turn)[0], wanted)

    def test_where_the_first_is_too_great_the_next_is_done(self):
        fun = ("fun", 1, ("a",), deed(2, name(3, "a"), deed(4, ONE, ONE)))
        call = ("call", 5, name(6, "f"), (name(7, "w"),))

        def deep(e, many):
            for number in range(many):
                e = ("now", 0, 0, "z", e)
            return e
        one = program(x=deep(call, 199), y=call, f=fun, w=SLOW)
        told, turns = all_turned(one)
        self.assertEqual(turns, [("put", ("y", ()))])
        self.assertEqual((told, turns), all_second(one))


class AllTurned(Turned):

    ONE = program(x=("let", 1, (("a", SLOW), ("b", NIL)), ("case", 2, name(3, "b"), "c", (("Nil", (), ("call", 4, name(5, "f"), (name(6, "a"),))),),
                                                           None)),
                  f=("fun", 7, ("d",), deed(8, name(9, "d"), name(10, "d"))))

    def test_the_order_of_turns(self):
        told, turns = all_turned(self.ONE)
        self.assertEqual(turns, [("known", ("x", (2,))), ("drop", ("x", ()), 1), ("early", ("x", ())), ("put", ("x", (1,)))])
        self.assertEqual(dict(told[2])["x"], ("early", 1, "a", SLOW, 9, deed(8, name(9, "a"), name(10, "a"))))
        self.assertEqual((told, turns), all_second(self.ONE))

    def test_most(self):
        full, turns = all_turned(self.ONE)
        for most in (0, 1, 2, 3, 4, 5, 1000):
            told, some = all_turned(self.ONE, most=most)
            self.assertEqual(some, turns[:most])
            one = self.ONE
            for turn in some:
                self.assertIsNone(turn_wrong(one, turn))
                one = turned(one, turn)
            self.assertEqual(told, one)
        self.assertEqual(all_turned(self.ONE, most=0), (self.ONE, []))
        self.assertEqual(all_turned(full), (full, []))

    def test_more_than_two_hundred(self):
        e = ONE
        for number in range(190):
            e = ("let", 1, ((f"a{number}", NIL),), e)
        one = program(x=e, y=("let", 1, tuple((f"b{number}", NIL) for number in range(30)), ONE))
        told, turns = all_turned(one)
        self.assertEqual(len(turns), 200)
        told, turns = all_turned(one, most=1000)
        self.assertEqual((len(turns), told), (220, program(x=ONE, y=ONE)))

    def test_put_only_of_small_funs_without_a_call(self):
        def wide(many):
            return ("name", 1, "d") if many == 1 else deed(2, ONE, wide(many - 2))
        for e, is_put in [(wide(11), True), (("now", 3, 4, "z", wide(11)), True), (wide(13), False),
                          (deed(5, ONE, ("call", 6, name(7, "g"), (name(8, "d"),))), False)]:
            one = program(x=("call", 9, name(10, "f"), (name(11, "w"),)), f=("fun", 12, ("d",), e), g=("fun", 13, ("h", "i"), ONE), w=SLOW)
            turns = all_turned(one)[1]
            self.assertEqual(("put", ("x", ())) in turns, is_put)
            self.assertIsNone(turn_wrong(one, ("put", ("x", ()))))
            self.assertEqual(all_turned(one), all_second(one))

    def test_rows_wrong(self):
        _, turns = all_turned(self.ONE)
        self.assertIsNone(rows_wrong(self.ONE, turns))
        self.assertIsNone(rows_wrong(self.ONE, []))
        self.assertEqual(rows_wrong(self.ONE, [*turns, turns[-1]]), 4)
        self.assertEqual(rows_wrong(self.ONE, [turns[0], turns[0]]), 1)
        self.assertEqual(rows_wrong(self.ONE, [turns[1], turns[0]]), 0)
        self.assertEqual(rows_wrong(self.ONE, [turns[0], turns[1], None, turns[2]]), 2)
        self.assertEqual(rows_wrong(self.ONE, [("known", ("x", (2,))), ("known", ("x", (2,)))]), 1)
        given = list(turns)
        rows_wrong(self.ONE, given)
        self.assertEqual(given, turns)


if __name__ == "__main__":
    unittest.main()
