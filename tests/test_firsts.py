"""first_ask: what a part surely asks first (25)."""

import inspect
import random
import unittest

from slumberway import firsts as firsts_file
from slumberway.cores import addresses, program_wrong
from slumberway.errors import NoAddress, NoProgram
from slumberway.firsts import first_ask
from slumberway.making import core
from slumberway.printer import printed
from tests.drawn import drawn
from tests.grown import Grower
from tests.helper import refusal
from tests.second_firsts import Firsts
from tests.second_machine import Second

TRUTH = (("False", 0), ("True", 0))
LIST = (("Nil", 0), ("Cons", 2))
DATA = {"False": TRUTH, "True": TRUTH, "Nil": LIST, "Cons": LIST}
PLACES = [(number + 1, 1) for number in range(40)]
ONE = ("num", 0, 1)
NIL = ("con", 0, "Nil", ())
SLOW = ("deed", 0, "plus", ONE, ONE)


def name(p, x):
    return ("name", p, x)


def deed(one, other, word="plus"):
    return ("deed", 1, word, one, other)


class Told(unittest.TestCase):

    def first(self, e, **tops):
        """Tells what is told of the e of a fun of the names u and v, with tops beside: w and y, that wait."""
        around = [("f", ("fun", 0, ("u", "v"), e)), ("w", SLOW), ("y", SLOW), *tops.items()]
        return self.at(around, ("f", (0,)))

    def at(self, tops, address):
        one = (list(PLACES), dict(DATA), list(tops))
        self.assertIsNone(program_wrong(one))
        before = repr(one)
        told = first_ask(one, address)
        self.assertEqual(repr(one), before)
        self.assertEqual(told, Firsts(one).first(address))
        self.assertEqual(first_ask(one, address), told)
        return told

    def test_names(self):
        self.assertEqual(self.first(name(5, "u")), ("u", 5))
        self.assertEqual(self.first(name(5, "w")), ("w", 5))

    def test_held_names(self):
        held = [("k", ONE), ("l", NIL), ("m", ("fun", 0, ("n",), ONE))]
        for x in ("k", "l", "m"):
            self.assertIsNone(self.first(name(5, x), **dict(held)))
            self.assertEqual(self.first(deed(name(5, x), name(6, "u")), **dict(held)), ("u", 6))
            let = ("let", 2, tuple(held), deed(name(5, x), name(6, "u")))
            self.assertEqual(self.at([("f", ("fun", 0, ("u",), let))], ("f", (0, 3))), ("u", 6))
            self.assertEqual(self.at([("f", ("fun", 0, ("u",), let))], ("f", (0,))), ("u", 6))
        self.assertIsNone(self.first(name(5, "f")))
        # A case's x and an early's, around and on the way.
        case = ("case", 2, SLOW, "c", ((1, (), deed(name(5, "c"), name(6, "u"))),), None)
        self.assertEqual(self.at([("f", ("fun", 0, ("u",), case))], ("f", (0, 1))), ("u", 6))
        early = ("early", 2, "c", SLOW, 3, deed(name(5, "c"), name(6, "u")))
        self.assertEqual(self.at([("f", ("fun", 0, ("u",), early))], ("f", (0, 1))), ("u", 6))
        case = ("case", 2, ONE, "c", (), deed(name(5, "c"), name(6, "u")))
        self.assertEqual(self.first(case), ("u", 6))

    def test_names_of_funs_and_alternatives_are_not_held(self):
        case = ("case", 2, SLOW, "c", (("Cons", ("d", "e"), name(5, "d")),), None)
        self.assertEqual(self.at([("f", case)], ("f", (1,))), ("d", 5))

    def test_of_all_else_none(self):
        for e in (ONE, NIL, ("con", 0, "Cons", (name(0, "u"), name(0, "v"))), ("fun", 0, ("a",), name(5, "u")), ("fault", 0, "none"),
                  ("early", 2, "c", name(3, "u"), 4, name(5, "u")), ("now", 2, 3, "c", name(5, "u"))):
            self.assertIsNone(self.first(e))
            self.assertIsNone(self.first(("let", 2, (("a1", ONE),), e)))

    def test_deeds(self):
        self.assertEqual(self.first(deed(name(5, "u"), name(6, "v"))), ("u", 5))
        for word in ("plus", "less", "times", "below", "same"):
            self.assertEqual(self.first(deed(ONE, name(6, "v"), word)), ("v", 6))
            self.assertEqual(self.first(deed(NIL, name(6, "v"), word)), ("v", 6))
        self.assertIsNone(self.first(deed(("fault", 0, "none"), name(6, "v"))))
        self.assertIsNone(self.first(deed(ONE, ONE)))
        self.assertEqual(self.first(deed(("fun", 0, ("a",), ONE), name(6, "v"))), ("v", 6))

    def test_deeds_of_sure_parts(self):
        sure = deed(ONE, NIL, "below")
        self.assertEqual(self.first(deed(sure, name(6, "v"))), ("v", 6))
        self.assertEqual(self.first(deed(deed(sure, ONE, "same"), name(6, "v"))), ("v", 6))
        for unsure in (deed(ONE, ONE, "plus"), deed(ONE, ONE, "less"), deed(ONE, ONE, "times"), deed(deed(ONE, ONE), ONE, "same")):
            self.assertIsNone(self.first(deed(unsure, name(6, "v"))))
        self.assertEqual(self.first(deed(deed(ONE, name(4, "u"), "below"), name(6, "v"))), ("u", 4))

    def test_lets(self):
        self.assertEqual(self.first(("let", 2, (("a", SLOW),), name(5, "u"))), ("u", 5))
        self.assertIsNone(self.first(("let", 2, (("a", SLOW),), name(5, "a"))))
        self.assertIsNone(self.first(("let", 2, (("a", SLOW), ("b", SLOW)), deed(name(5, "b"), name(6, "u")))))
        # One around was not come to on the way.
        let = ("let", 2, (("a", SLOW),), deed(name(5, "a"), ONE))
        self.assertEqual(self.at([("f", let)], ("f", (1,))), ("a", 5))
        self.assertIsNone(self.at([("f", let)], ("f", ())))
        self.assertIsNone(self.at([("f", deed(let, ONE))], ("f", ())))
        self.assertEqual(self.at([("f", deed(let, ONE))], ("f", (0, 1, 0))), ("a", 5))

    def test_cases(self):
        self.assertEqual(self.first(("case", 2, name(5, "u"), "c", (), name(6, "v"))), ("u", 5))
        self.assertIsNone(self.first(("case", 2, SLOW, "c", (), name(6, "v"))))
        self.assertEqual(self.first(("case", 2, ONE, "c", (), name(6, "v"))), ("v", 6))
        self.assertEqual(self.first(("case", 2, ONE, "c", ((1, (), name(6, "v")),), name(6, "v"))), ("v", 6))
        # Without other, numbers are never all.
        self.assertIsNone(self.first(("case", 2, ONE, "c", ((1, (), name(6, "v")),), None)))
        self.assertIsNone(self.first(("case", 2, ONE, "c", (), None)))

    def test_alternatives_that_ask_alike_and_not(self):
        def case(one, other, more=()):
            return ("case", 2, NIL, "c", (("Nil", (), one), ("Cons", ("a", "b"), other), *more), None)
        self.assertEqual(self.first(case(name(6, "v"), name(6, "v"))), ("v", 6))
        self.assertIsNone(self.first(case(name(6, "v"), name(7, "v"))))
        self.assertIsNone(self.first(case(name(6, "v"), name(6, "u"))))
        self.assertIsNone(self.first(case(name(6, "v"), ONE)))
        self.assertIsNone(self.first(case(ONE, name(6, "v"))))
        self.assertIsNone(self.first(case(ONE, ONE)))
        self.assertEqual(self.first(case(name(6, "v"), deed(name(6, "v"), ONE))), ("v", 6))
        # More than all makers of the first one's lot; all of them, but not of the first one's.
        self.assertEqual(self.first(case(name(6, "v"), name(6, "v"), ((3, (), name(6, "v")),))), ("v", 6))
        self.assertIsNone(self.first(case(name(6, "v"), name(6, "v"), ((3, (), name(7, "v")),))))
        self.assertIsNone(self.first(("case", 2, NIL, "c", ((3, (), name(6, "v")), ("Nil", (), name(6, "v")),
                                                            ("Cons", ("a", "b"), name(6, "v"))), None)))
        self.assertIsNone(self.first(("case", 2, NIL, "c", (("Nil", (), name(6, "v")), ("True", (), name(6, "v")),
                                                            ("False", (), name(6, "v"))), None)))
        self.assertIsNone(self.first(("case", 2, NIL, "c", (("Nil", (), name(6, "v")),), None)))
        self.assertEqual(self.first(("case", 2, NIL, "c", (("Nil", (), name(6, "v")),), name(6, "v"))), ("v", 6))
        self.assertIsNone(self.first(("case", 2, NIL, "c", (("Nil", (), name(6, "v")),), name(7, "v"))))
        both = (("Nil", (), name(6, "v")), ("Cons", ("a", "b"), name(6, "v")))
        self.assertIsNone(self.first(("case", 2, NIL, "c", both, name(7, "v"))))
        self.assertEqual(self.first(("case", 2, NIL, "c", both, name(6, "v"))), ("v", 6))

    def test_a_name_that_an_alternative_on_the_way_binds(self):
        e = ("case", 2, NIL, "c", (("Cons", ("a", "b"), name(6, "b")),), None)
        self.assertIsNone(self.first(e))
        data = {**DATA, "Box": (("Box", 1),)}
        e = ("case", 2, ("con", 3, "Box", (name(4, "u"),)), "c", (("Box", ("a",), name(6, "a")),), None)
        one = (list(PLACES), data, [("f", ("fun", 0, ("u",), e))])
        self.assertEqual(first_ask(one, ("f", (0,))), ("a", 6))

    def test_calls(self):
        two = ("fun", 0, ("a", "b"), deed(name(7, "b"), name(8, "a")))
        self.assertEqual(self.first(("call", 2, name(3, "g"), (name(4, "u"), name(5, "v"))), g=two), ("v", 7))
        self.assertEqual(self.first(("call", 2, name(3, "g"), (name(4, "u"), name(5, "u"))), g=two), ("u", 7))
        self.assertEqual(self.first(("call", 2, name(3, "g"), (name(4, "u"), ("num", 5, 1))), g=two), ("u", 8))
        self.assertIsNone(self.first(("call", 2, name(3, "g"), (("num", 4, 1), ("num", 5, 1))), g=two))
        # Held names, handed over.
        self.assertEqual(self.first(("call", 2, name(3, "g"), (name(4, "u"), name(5, "k"))), g=two, k=NIL), ("u", 8))
        # Fewer and more atoms.
        self.assertIsNone(self.first(("call", 2, name(3, "g"), (name(4, "u"),)), g=two))
        self.assertIsNone(self.first(("call", 2, name(3, "g"), (name(4, "u"),) * 3), g=two))
        # An f that is no fun, or that nobody knows.
        self.assertIsNone(self.first(("call", 2, name(3, "w"), (name(4, "u"),))))
        self.assertIsNone(self.first(("call", 2, name(3, "u"), (name(4, "v"),))))
        self.assertIsNone(self.first(("call", 2, name(3, "k"), (name(4, "v"),)), k=NIL))

    def test_calls_of_funs_in_lets(self):
        fun = ("fun", 0, ("a",), deed(name(7, "a"), ONE))
        let = ("let", 2, (("g", fun), ("h", SLOW)), ("call", 3, name(4, "g"), (name(5, "u"),)))
        self.assertEqual(self.first(let), ("u", 7))
        let = ("let", 2, (("g", fun), ("h", SLOW)), ("call", 3, name(4, "g"), (name(5, "h"),)))
        self.assertIsNone(self.first(let))
        self.assertEqual(self.at([("f", let)], ("f", (2,))), ("h", 7))
        # A fun's free names stay what they are; a let within it is come to on the way.
        fun = ("fun", 0, ("a",), ("let", 8, (("b", name(9, "a")),), deed(name(10, "b"), ONE)))
        self.assertIsNone(self.first(("call", 3, name(4, "g"), (name(5, "u"),)), g=fun))
        fun = ("fun", 0, ("a",), deed(name(7, "w"), name(8, "a")))
        self.assertEqual(self.first(("call", 3, name(4, "g"), (name(5, "u"),)), g=fun), ("w", 7))

    def test_an_exchanged_f(self):
        hand = ("fun", 0, ("a", "b"), ("call", 6, name(7, "a"), (name(8, "b"),)))
        g = ("fun", 0, ("c",), name(9, "c"))
        self.assertIsNone(self.first(("call", 2, name(3, "h"), (name(4, "g"), name(5, "u"))), g=g, h=hand))
        self.assertEqual(self.first(("call", 2, name(3, "g"), (name(4, "u"),)), g=g), ("u", 9))

    def test_cases_within_calls(self):
        fun = ("fun", 0, ("a", "b"), ("case", 6, name(7, "a"), "c", ((1, (), name(8, "b")),), name(8, "b")))
        self.assertEqual(self.first(("call", 2, name(3, "g"), (name(4, "u"), name(5, "v"))), g=fun), ("u", 7))
        self.assertEqual(self.first(("call", 2, name(3, "g"), (("num", 4, 1), name(5, "v"))), g=fun), ("v", 8))
        self.assertEqual(self.first(("call", 2, name(3, "g"), (name(4, "k"), name(5, "v"))), g=fun, k=NIL), ("v", 8))

    def test_four_calls_and_five(self):
        tops = {}
        for number in range(1, 6):
            tops[f"g{number}"] = ("fun", 0, (f"a{number}",), ("call", 2, name(3, f"g{number + 1}"), (name(4, f"a{number}"),)))
        tops["g6"] = ("fun", 0, ("a6",), name(9, "a6"))
        for begin, wanted in [("g6", ("u", 9)), ("g5", ("u", 9)), ("g4", ("u", 9)), ("g3", ("u", 9)), ("g2", None), ("g1", None)]:
            self.assertEqual(self.first(("call", 2, name(3, begin), (name(4, "u"),)), **tops), wanted)
        # Calls one behind the other are not within one another.
        e = deed(("num", 1, 1), ("call", 2, name(3, "g3"), (name(4, "u"),)))
        self.assertEqual(self.first(e, **tops), ("u", 9))

    def test_a_fun_that_calls_itself(self):
        fun = ("fun", 0, ("a",), ("call", 2, name(3, "g"), (name(4, "a"),)))
        self.assertIsNone(self.first(("call", 2, name(3, "g"), (name(4, "u"),)), g=fun))
        fun = ("fun", 0, ("a", "b"), ("case", 2, name(3, "a"), "c", ((0, (), ONE),), ("call", 4, name(5, "g"), (name(6, "b"), name(7, "a")))))
        self.assertEqual(self.at([("g", fun)], ("g", (0, 2))), ("b", 3))

    def test_exchanged_names_within_exchanged_names(self):
        g = ("fun", 0, ("a", "b"), ("call", 2, name(3, "h"), (name(4, "b"), name(5, "a"))))
        h = ("fun", 0, ("c", "d"), deed(name(6, "c"), name(7, "d")))
        self.assertEqual(self.first(("call", 8, name(9, "g"), (name(10, "u"), name(11, "v"))), g=g, h=h), ("v", 6))
        self.assertEqual(self.first(("call", 8, name(9, "g"), (name(10, "u"), ("num", 11, 1))), g=g, h=h), ("u", 7))

    def test_a_fun_within_a_fun_knows_what_was_handed_over(self):
        g = ("fun", 0, ("a",), ("let", 1, (("h", ("fun", 2, ("b",), deed(name(3, "a"), name(4, "b")))),), (
            "call", 5, name(6, "h"), (("num", 7, 1),))))
        self.assertEqual(self.first(("call", 8, name(9, "g"), (name(10, "u"),)), g=g), ("u", 3))
        self.assertIsNone(self.first(("call", 8, name(9, "g"), (("num", 10, 1),)), g=g))

    def test_early_s_word(self):
        # What an early's rule asks of a let.
        let = ("let", 2, (("a", SLOW),), ("case", 3, name(5, "a"), "c", (), ONE))
        self.assertEqual(self.at([("f", let)], ("f", (1,))), ("a", 5))


class Refused(unittest.TestCase):

    ONE = (list(PLACES), dict(DATA), [("f", ("fun", 0, ("a",), deed(name(1, "a"), ONE)))])

    def test_no_address(self):
        for thing in (None, 1, "f", [], (), ("f",), ("f", (), ()), ["f", ()], ("g", ()), ("f", [0]), ("f", (1,)), ("f", (-1,)),
                      ("f", (False,)), ("f", (0, True)), ("f", (0, 2)), ("f", ("0",)), (["f"], ()), ("f", (0, 0, 0))):
            self.assertEqual(refusal(self, NoAddress, first_ask, self.ONE, thing).address, thing)

    def test_no_program_ahead_of_it(self):
        self.assertEqual(refusal(self, NoProgram, first_ask, None, None).wrong, ("program",))
        self.assertEqual(refusal(self, NoProgram, first_ask, ([], {}, [("f", ONE)]), ("g", ())).wrong, ("part", ("f", ())))

    def test_by_names(self):
        self.assertEqual(first_ask(program=self.ONE, address=("f", (0,))), ("a", 1))
        self.assertEqual(str(inspect.signature(first_ask)), "(program, address)")
        self.assertEqual(first_ask.__module__, firsts_file.__name__)


class Drawn(unittest.TestCase):

    def check(self, one):
        firsts = Firsts(one)
        told = []
        for address in addresses(one):
            told.append(first_ask(one, address))
            self.assertEqual(told[-1], firsts.first(address), address)
        return told

    def test_programs(self):
        told = []
        for seed in range(150):
            told.extend(self.check(drawn(random.Random(seed))))
        self.assertGreater(len([one for one in told if one]), 300)

    def test_cores_of_texts(self):
        told = []
        for seed in range(25):
            told.extend(self.check(core(printed(Grower(random.Random(seed), 3).tree(2)))))
        self.assertGreater(len([one for one in told if one]), 200)

    def test_what_is_told_is_asked_first(self):
        """A top's first ask is that of first_ask, where it comes to an ask ahead of its end."""
        seen = 0
        for seed in range(400):
            one = drawn(random.Random(seed), turned=False)
            for x, e in one[2]:
                told = first_ask(one, (x, ()))
                if told is None or e[0] in ("num", "con", "fun"):
                    continue
                machine = Second(one, True, 500)
                answer = machine.answer(x, 0)
                if machine.asks:
                    seen += 1
                    self.assertEqual(machine.asks[0], ((told[1], None),))
                else:
                    # A name of an alternative may be a head.
                    self.assertTrue(told[0] not in dict(one[2]) or answer[0] == "fault", (seed, x, told, answer))
        self.assertGreater(seen, 20)

    def test_deep_parts(self):
        e = name(5, "u")
        for number in range(197):
            e = [("deed", 1, "plus", e, ONE), ("let", 1, ((f"a{number}", ONE),), e), ("deed", 1, "below", ONE, e),
                 ("case", 1, e, f"a{number}", (), ONE)][number % 4]
        one = (list(PLACES), dict(DATA), [("f", ("fun", 0, ("u",), e))])
        self.assertEqual(first_ask(one, ("f", (0,))), ("u", 5))
        self.check(one)
        sure = deed(ONE, ONE, "below")
        for _ in range(190):
            sure = deed(sure, ONE, "same")
        one = (list(PLACES), dict(DATA), [("f", ("fun", 0, ("u",), deed(sure, name(5, "u"))))])
        self.assertEqual(first_ask(one, ("f", (0,))), ("u", 5))


if __name__ == "__main__":
    unittest.main()
