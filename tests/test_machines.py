"""by_name and shared by hand: heads, waiting things, each kind of part, ways, answers, bounds, refusals (19 to 22).

by_rows is asked beside them: it has to tell just what shared tells.
"""

import inspect
import unittest

from slumberway import machines as machines_file
from slumberway import rows as rows_file
from slumberway.cores import program_wrong
from slumberway.errors import NoCount, NoName, NoProgram
from slumberway.machines import MOST, by_name, shared
from slumberway.rows import by_rows, read_rows, rows_of, rows_text
from tests.helper import refusal
from tests.second_machine import Second

TRUTH = (("False", 0), ("True", 0))
LIST = (("Nil", 0), ("Cons", 2))
DATA = {"False": TRUTH, "True": TRUTH, "Nil": LIST, "Cons": LIST, "Box": (("Box", 1),), "Pair": (("Pair", 2),)}
SIXTY = 10 ** 60
ONE = ("num", 0, 1)


def program(places=40, data=DATA, **tops):
    return ([(number + 1, 1) for number in range(places)], dict(data), list(tops.items()))


def name(p, x):
    return ("name", p, x)


def num(p, n):
    return ("num", p, n)


def told(text, *pieces):
    return ("told", text, list(pieces))


class Machines(unittest.TestCase):

    def run_all(self, one, x="x", **bounds):
        """Tells the answer and costs by name and shared, each beside the second machine's."""
        self.assertIsNone(program_wrong(one))
        before = repr(one)
        most, depth = bounds.get("most", MOST), bounds.get("depth", 20)
        by, once = by_name(one, x, **bounds), shared(one, x, **bounds)
        self.assertEqual(by, Second(one, False, most).run(x, depth))
        self.assertEqual(once, Second(one, True, most).run(x, depth))
        self.assertEqual(by_rows(rows_of(one), x, **bounds), once)
        self.assertEqual(repr(one), before)
        return by, once

    def both(self, wanted, one, x="x", costs=None, **bounds):
        """Both machines tell the same answer, and the same costs, where these are told."""
        by, once = self.run_all(one, x, **bounds)
        self.assertEqual(by[0], wanted)
        self.assertEqual(once[0], wanted)
        if costs is not None:
            self.assertEqual(by[1], costs)
            self.assertEqual(once[1], costs)

    def apart(self, one, by_wanted, once_wanted, x="x", **bounds):
        by, once = self.run_all(one, x, **bounds)
        self.assertEqual(by, by_wanted)
        self.assertEqual(once, once_wanted)


class Heads(Machines):

    def test_tops_that_are_heads_cost_nothing(self):
        self.both(told("7", (7, 3)), program(x=num(3, 7)), costs=[])
        self.both(told("FUN", ("FUN", 2)), program(x=("fun", 2, ("a",), name(1, "a"))), costs=[])
        self.both(told("Nil", ("Nil", 5)), program(x=("con", 5, "Nil", ())), costs=[])
        self.both(told("Cons(1, Nil)", ("Cons", 5), (1, 6), ("Nil", 8)),
                  program(x=("con", 5, "Cons", (num(6, 1), name(7, "y"))), y=("con", 8, "Nil", ())), costs=[])

    def test_a_waiting_top_s_part_is_counted_but_not_its_ask(self):
        self.both(told("7", (7, 3)), program(x=name(1, "y"), y=num(3, 7)), costs=[(1, 1, 0, 0)])
        self.both(told("7", (7, 3)), program(x=name(1, "y"), y=name(2, "z"), z=num(3, 7)),
                  costs=[(1, 1, 0, 1), (2, 1, 0, 0)])
        self.both(told("Box(7)", ("Box", 4), (7, 3)), program(x=("con", 4, "Box", (name(5, "y"),)), y=name(2, "z"), z=num(3, 7)),
                  costs=[(2, 1, 0, 0)])

    def test_pieces_of_numbers_are_whole_numbers(self):
        answer, _ = shared(program(x=num(3, 7)), "x")
        self.assertIs(answer[2][0][0].__class__, int)

    def test_a_let_makes_all_at_once(self):
        e = ("let", 4, (("a", name(1, "b")), ("b", num(2, 5)), ("c", name(3, "a")), ("d", ("con", 6, "Nil", ())),
                        ("e", ("fun", 7, ("f",), name(8, "f")))), num(9, 0))
        self.both(told("0", (0, 9)), program(x=e), costs=[(4, 1, 2, 0), (9, 1, 0, 0)])

    def test_heads_from_the_beginning_count_nothing(self):
        e = ("let", 4, (("a", num(2, 5)),), name(3, "a"))
        self.both(told("5", (5, 2)), program(x=e), costs=[(3, 1, 0, 0), (4, 1, 0, 0)])
        e = ("let", 4, (("a", ("con", 5, "Box", (name(6, "b"),))), ("b", ("con", 7, "Box", (name(8, "a"),)))), name(3, "a"))
        self.both(told("Box(Box(Box(..)))", ("Box", 5), ("Box", 7), ("Box", 5)), program(x=e),
                  costs=[(3, 1, 0, 0), (4, 1, 0, 0)], depth=2)
        e = ("let", 4, (("a", ("fun", 5, ("c",), ("call", 9, name(6, "b"), (name(7, "c"),)))),
                        ("b", ("fun", 8, ("d",), name(10, "d")))), ("call", 3, name(11, "a"), (num(12, 4),)))
        self.both(told("4", (4, 12)), program(x=e),
                  costs=[(3, 1, 0, 0), (4, 1, 0, 0), (6, 1, 0, 0), (9, 1, 0, 0), (10, 1, 0, 0), (11, 1, 0, 0)])

    def test_an_atom_stands_for_just_what_its_name_stands_for(self):
        # What a fun's name stands for is asked once, shared, through whatever name it is asked.
        box = ("fun", 1, ("a", "b"), ("deed", 2, "plus", name(3, "a"), name(4, "b")))
        e = ("let", 5, (("c", ("deed", 6, "plus", num(7, 1), num(8, 2))),), ("call", 9, name(10, "f"), (name(11, "c"), name(12, "c"))))
        once = [(2, 1, 0, 0), (3, 1, 0, 1), (4, 1, 0, 0), (5, 1, 1, 0), (6, 1, 0, 0), (7, 1, 0, 0), (8, 1, 0, 0), (9, 1, 0, 0),
                (10, 1, 0, 0)]
        by = [(2, 1, 0, 0), (3, 1, 0, 1), (4, 1, 0, 1), (5, 1, 1, 0), (6, 2, 0, 0), (7, 2, 0, 0), (8, 2, 0, 0), (9, 1, 0, 0),
              (10, 1, 0, 0)]
        answer = told("6", (6, 2))
        self.apart(program(x=e, f=box), (answer, by), (answer, once))

    def test_a_num_atom_is_made_at_its_own_place(self):
        e = ("call", 1, name(2, "f"), (num(3, 9),))
        self.both(told("9", (9, 3)), program(x=e, f=("fun", 4, ("a",), name(5, "a"))),
                  costs=[(1, 1, 0, 0), (2, 1, 0, 0), (5, 1, 0, 0)])
        e = ("case", 1, ("con", 2, "Box", (num(3, 9),)), "y", (("Box", ("z",), name(4, "z")),), None)
        self.both(told("9", (9, 3)), program(x=e), costs=[(1, 1, 0, 0), (2, 1, 0, 0), (4, 1, 0, 0)])


class Calls(Machines):

    TWO = ("fun", 1, ("a", "b"), ("deed", 2, "less", name(3, "a"), name(4, "b")))

    def test_as_many_atoms(self):
        e = ("call", 5, name(6, "f"), (num(7, 9), num(8, 4)))
        self.both(told("5", (5, 2)), program(x=e, f=self.TWO),
                  costs=[(2, 1, 0, 0), (3, 1, 0, 0), (4, 1, 0, 0), (5, 1, 0, 0), (6, 1, 0, 0)])

    def test_fewer_atoms(self):
        e = ("call", 5, name(6, "f"), (num(7, 9),))
        self.both(told("FUN", ("FUN", 1)), program(x=e, f=self.TWO), costs=[(5, 1, 0, 0), (6, 1, 0, 0)])
        e = ("let", 9, (("g", e),), ("deed", 10, "plus", ("call", 11, name(12, "g"), (num(13, 1),)),
                                     ("call", 14, name(15, "g"), (num(16, 2),))))
        self.both(told("15", (15, 10)), program(x=e, f=self.TWO))
        # One that waits for more, among the pieces: of its fun.
        e = ("con", 9, "Box", (name(10, "y"),))
        self.both(told("Box(FUN)", ("Box", 9), ("FUN", 1)), program(x=e, y=("call", 5, name(6, "f"), (num(7, 9),)), f=self.TWO))

    def test_one_that_waits_may_be_given_more_twice(self):
        f = ("fun", 1, ("a", "b", "c"), ("deed", 2, "less", ("deed", 3, "times", name(4, "a"), name(5, "b")), name(6, "c")))
        g = ("call", 7, name(8, "f"), (num(9, 10),))
        h = ("call", 10, name(11, "g"), (num(12, 3),))
        e = ("deed", 13, "plus", ("call", 14, name(15, "h"), (num(16, 1),)), ("call", 17, name(18, "g"), (num(19, 5), num(20, 2))))
        self.both(told("77", (77, 13)), program(x=e, f=f, g=g, h=h))

    def test_more_atoms(self):
        f = ("fun", 1, ("a",), ("fun", 2, ("b", "c"), ("deed", 3, "less", name(4, "a"), name(5, "b"))))
        e = ("call", 6, name(7, "f"), (num(8, 9), num(9, 4), num(10, 0)))
        self.both(told("5", (5, 3)), program(x=e, f=f),
                  costs=[(2, 1, 0, 0), (3, 1, 0, 0), (4, 1, 0, 0), (5, 1, 0, 0), (6, 1, 0, 0), (7, 1, 0, 0)])
        e = ("call", 6, name(7, "f"), (num(8, 9), num(9, 4)))
        self.both(told("FUN", ("FUN", 2)), program(x=e, f=f))

    def test_more_atoms_to_functions_that_come_one_behind_the_other(self):
        f = ("fun", 1, ("a",), name(2, "g"))
        g = ("fun", 3, ("b",), ("call", 4, name(5, "h"), (name(6, "b"),)))
        h = ("fun", 7, ("c", "d"), ("fun", 8, ("e",), ("deed", 9, "plus", name(10, "c"), ("deed", 11, "times", name(12, "d"),
                                                                                       name(13, "e")))))
        e = ("call", 20, name(21, "f"), (num(22, 1), num(23, 2), num(24, 3), num(25, 4)))
        self.both(told("14", (14, 9)), program(x=e, f=f, g=g, h=h))

    def test_functions_that_come_to_functions(self):
        f = ("fun", 1, ("g", "a"), ("call", 2, name(3, "g"), (name(4, "a"),)))
        e = ("let", 5, (("b", ("fun", 6, ("c",), ("deed", 7, "times", name(8, "c"), name(9, "c")))),),
             ("call", 10, name(11, "f"), (name(12, "b"), num(13, 6))))
        self.both(told("36", (36, 7)), program(x=e, f=f))

    def test_f_that_waits_is_asked(self):
        e = ("let", 1, (("f", ("case", 2, num(3, 0), "a", (), ("fun", 4, ("b",), name(5, "b")))),),
             ("deed", 6, "plus", ("call", 7, name(8, "f"), (num(9, 2),)), ("call", 10, name(11, "f"), (num(12, 3),))))
        by = [(1, 1, 1, 0), (2, 2, 0, 0), (3, 2, 0, 0), (4, 2, 0, 0), (5, 2, 0, 0), (6, 1, 0, 0), (7, 1, 0, 0), (8, 1, 0, 1),
              (10, 1, 0, 0), (11, 1, 0, 1)]
        once = [(1, 1, 1, 0), (2, 1, 0, 0), (3, 1, 0, 0), (4, 1, 0, 0), (5, 2, 0, 0), (6, 1, 0, 0), (7, 1, 0, 0), (8, 1, 0, 1),
                (10, 1, 0, 0), (11, 1, 0, 0)]
        self.apart(program(x=e), (told("5", (5, 6)), by), (told("5", (5, 6)), once))

    def test_a_call_of_what_is_no_function(self):
        for y in (num(1, 2), ("con", 1, "Nil", ()), ("con", 1, "Box", (ONE,))):
            e = ("call", 5, name(6, "y"), (num(7, 9),))
            self.both(("fault", "kind", 5, ()), program(x=e, y=y), costs=[(5, 1, 0, 0), (6, 1, 0, 0)])
        e = ("call", 5, name(6, "f"), (num(7, 9), num(8, 3)))
        self.both(("fault", "kind", 5, ()), program(x=e, f=("fun", 1, ("a",), name(2, "a"))))
        # The way of a call is that of its own, not that of what it came to.
        e = ("call", 5, name(6, "f"), (num(7, 9), num(8, 3)))
        self.both(("fault", "kind", 5, ()), program(x=e, f=("fun", 1, ("a",), name(2, "y")), y=name(3, "z"), z=num(4, 1)))

    def test_recursion_has_names_of_its_own(self):
        f = ("fun", 1, ("n",), ("case", 2, name(3, "n"), "m", ((0, (), num(4, 0)),), (
            "let", 5, (("k", ("deed", 6, "less", name(7, "n"), num(8, 1))),
                       ("r", ("call", 9, name(10, "f"), (name(11, "k"),)))),
            ("deed", 12, "plus", ("deed", 13, "times", name(14, "k"), name(15, "m")), name(16, "r")))))
        e = ("call", 20, name(21, "f"), (num(22, 4),))
        self.both(told(str(3 * 4 + 2 * 3 + 1 * 2), (20, 12)), program(x=e, f=f))


class Cases(Machines):

    def case(self, e, *alternatives, other=None, p=1, x="y"):
        return ("case", p, e, x, alternatives, other)

    def test_makers_and_numbers(self):
        for e, wanted in [(("con", 2, "Nil", ()), 10), (("con", 2, "Cons", (num(3, 1), num(4, 2))), 1), (("con", 2, "True", ()), 30),
                          (num(2, 7), 40), (num(2, 0), 50), (num(2, 8), 30), (("deed", 2, "less", num(3, 3), num(3, 10)), 30)]:
            one = self.case(e, ("Nil", (), num(5, 10)), (7, (), num(6, 40)), ("Cons", ("a", "b"), name(7, "a")), (0, (), num(8, 50)),
                            other=num(9, 30))
            answer, _ = shared(program(x=one), "x")
            self.assertEqual(answer[1], str(wanted))
            self.run_all(program(x=one))

    def test_numbers_are_no_truths(self):
        one = self.case(("con", 2, "True", ()), (1, (), num(3, 5)), (0, (), num(3, 6)), other=num(4, 7))
        self.both(told("7", (7, 4)), program(x=one))

    def test_its_x_stands_for_the_head(self):
        one = self.case(("deed", 2, "plus", num(3, 1), num(4, 2)), (3, (), ("deed", 5, "plus", name(6, "y"), name(7, "y"))))
        self.both(told("6", (6, 5)), program(x=one), costs=[(p, 1, 0, 0) for p in (1, 2, 3, 4, 5, 6, 7)])
        one = self.case(("con", 2, "Nil", ()), other=name(3, "y"))
        self.both(told("Nil", ("Nil", 2)), program(x=one), costs=[(1, 1, 0, 0), (2, 1, 0, 0), (3, 1, 0, 0)])

    def test_names_of_alternatives_bring_nothing_new(self):
        e = ("let", 10, (("a", ("deed", 11, "plus", num(12, 1), num(13, 2))),), self.case(
            ("con", 2, "Pair", (name(3, "a"), name(4, "a"))), ("Pair", ("b", "c"), ("deed", 5, "times", name(6, "b"), name(7, "c")))))
        once = [(1, 1, 0, 0), (2, 1, 0, 0), (5, 1, 0, 0), (6, 1, 0, 1), (7, 1, 0, 0), (10, 1, 1, 0), (11, 1, 0, 0), (12, 1, 0, 0),
                (13, 1, 0, 0)]
        by, told_once = self.run_all(program(x=e))
        self.assertEqual(told_once, (told("9", (9, 5)), once))
        self.assertEqual(by[0], told_once[0])

    def test_none(self):
        self.both(("fault", "none", 1, ()), program(x=self.case(num(2, 3))), costs=[(1, 1, 0, 0), (2, 1, 0, 0)])
        self.both(("fault", "none", 1, ()), program(x=self.case(num(2, 3), (4, (), ONE), ("Nil", (), ONE))))
        self.both(("fault", "none", 1, ()), program(x=self.case(("con", 2, "Nil", ()), (4, (), ONE), ("True", (), ONE))))

    def test_a_function(self):
        fun = ("fun", 2, ("a",), name(3, "a"))
        for one in (self.case(fun), self.case(fun, other=ONE), self.case(fun, (0, (), ONE), ("Nil", (), ONE), other=ONE)):
            self.both(("fault", "kind", 1, ()), program(x=one), costs=[(1, 1, 0, 0), (2, 1, 0, 0)])


class Deeds(Machines):

    def deed(self, word, one, other):
        return ("deed", 1, word, one, other)

    def test_numbers(self):
        for word, one, other, wanted in [("plus", 3, 4, 7), ("less", 3, 4, -1), ("less", 4, 3, 1), ("times", 3, 4, 12), ("less", 3, 3, 0),
                                         ("times", 0, 10 ** 59, 0), ("plus", SIXTY - 2, 1, SIXTY - 1), ("less", 0, SIXTY - 1, 1 - SIXTY)]:
            self.both(told(str(wanted), (wanted, 1)), program(x=self.deed(word, num(2, one), num(3, other))),
                      costs=[(1, 1, 0, 0), (2, 1, 0, 0), (3, 1, 0, 0)])

    def test_below_none(self):
        low = self.deed("less", num(2, 3), num(3, 5))
        self.both(told("-4", (-4, 1)), program(x=self.deed("plus", low, low)))
        self.both(told("4", (4, 1)), program(x=self.deed("times", low, low)))
        self.both(told("True", ("True", 1)), program(x=self.deed("below", low, num(2, 0))))
        self.both(told("False", ("False", 1)), program(x=self.deed("same", low, num(2, 2))))

    def test_truths(self):
        for word, one, other, wanted in [("below", 3, 4, True), ("below", 4, 4, False), ("below", 5, 4, False), ("same", 4, 4, True),
                                         ("same", 4, 5, False), ("same", 0, 1, False)]:
            self.both(told(str(wanted), (str(wanted), 1)), program(x=self.deed(word, num(2, one), num(3, other))))
        one = ("case", 4, self.deed("same", ONE, ONE), "y", (("False", (), num(5, 0)), ("True", (), name(6, "y"))), None)
        self.both(told("True", ("True", 1)), program(x=one))

    def test_great(self):
        half = 10 ** 30
        for word, one, other in [("plus", SIXTY - 1, 1), ("times", half, half), ("times", SIXTY - 1, SIXTY - 1)]:
            self.both(("fault", "great", 1, ()), program(x=self.deed(word, num(2, one), num(3, other))),
                      costs=[(1, 1, 0, 0), (2, 1, 0, 0), (3, 1, 0, 0)])
        low = ("deed", 4, "less", num(5, 0), num(6, SIXTY - 1))
        self.both(("fault", "great", 1, ()), program(x=self.deed("less", low, ONE)))
        self.both(told(str(1 - SIXTY), (1 - SIXTY, 1)), program(x=self.deed("less", low, num(7, 0))))

    def test_kind(self):
        for word in ("plus", "less", "times", "below", "same"):
            for bad in (("con", 2, "Nil", ()), ("con", 2, "True", ()), ("fun", 2, ("a",), name(3, "a"))):
                # Both are gone by ahead of the fault.
                self.both(("fault", "kind", 1, ()), program(x=self.deed(word, bad, num(4, 1))), costs=[(1, 1, 0, 0), (2, 1, 0, 0), (4, 1, 0, 0)])
                self.both(("fault", "kind", 1, ()), program(x=self.deed(word, num(4, 1), bad)), costs=[(1, 1, 0, 0), (2, 1, 0, 0), (4, 1, 0, 0)])
                self.both(("fault", "odd", 4, ()), program(x=self.deed(word, bad, ("fault", 4, "odd"))))
        self.both(("fault", "odd", 4, ()), program(x=self.deed("plus", ("fault", 4, "odd"), ("fault", 5, "none"))),
                  costs=[(1, 1, 0, 0), (4, 1, 0, 0)])


class EarlyAndNow(Machines):

    def test_early(self):
        e = ("early", 1, "a", ("deed", 2, "plus", num(3, 1), num(4, 2)), 5, ("deed", 6, "times", name(7, "a"), name(8, "a")))
        self.both(told("9", (9, 6)), program(x=e), costs=[(1, 1, 0, 0), (2, 1, 0, 0), (3, 1, 0, 0), (4, 1, 0, 0), (5, 0, 0, 1), (6, 1, 0, 0),
                                                          (7, 1, 0, 0), (8, 1, 0, 0)])
        # A head that is asked early is gone by and counted all the same.
        self.both(told("0", (0, 6)), program(x=("early", 1, "a", num(2, 5), 5, num(6, 0))),
                  costs=[(1, 1, 0, 0), (2, 1, 0, 0), (5, 0, 0, 1), (6, 1, 0, 0)])

    def test_now(self):
        e = ("deed", 1, "plus", ("now", 2, 3, "a", ("deed", 4, "plus", num(5, 1), num(6, 2))), num(7, 4))
        self.both(told("7", (7, 1)), program(x=e), costs=[(1, 1, 0, 0), (2, 1, 0, 1), (4, 1, 0, 0), (5, 1, 0, 0), (6, 1, 0, 0), (7, 1, 0, 0)])

    def test_their_ways(self):
        e = ("early", 1, "a", ("fault", 2, "odd"), 3, ("fault", 4, "none"))
        self.both(("fault", "odd", 2, ((3, 1),)), program(x=e))
        e = ("early", 1, "a", num(2, 5), 3, ("fault", 4, "none"))
        self.both(("fault", "none", 4, ()), program(x=e))
        e = ("deed", 8, "plus", ("now", 5, 6, "a", ("fault", 4, "none")), ONE)
        self.both(("fault", "none", 4, ((5, 6),)), program(x=e))
        e = ("deed", 8, "plus", ("now", 5, 6, "a", ONE), ("fault", 4, "none"))
        self.both(("fault", "none", 4, ()), program(x=e))
        e = ("let", 9, (("b", ("early", 1, "a", ("now", 5, 6, "c", ("case", 10, ONE, "d", (), None)), 3, ONE)),), name(7, "b"))
        self.both(("fault", "none", 10, ((7, 9), (3, 1), (5, 6))), program(x=e))

    def test_a_now_binds_nothing(self):
        e = ("now", 2, 3, "y", name(4, "y"))
        self.both(told("5", (5, 6)), program(x=e, y=num(6, 5)))

    def test_early_in_a_fun_that_is_called_twice(self):
        f = ("fun", 1, ("n",), ("early", 2, "a", ("deed", 3, "plus", name(4, "n"), num(5, 1)), 6, ("fun", 7, ("b",), (
            "deed", 8, "times", name(9, "a"), name(10, "b")))))
        e = ("let", 11, (("g", ("call", 12, name(13, "f"), (num(14, 1),))), ("h", ("call", 15, name(16, "f"), (num(17, 2),)))),
             ("deed", 18, "plus", ("call", 19, name(20, "g"), (num(21, 10),)), ("call", 22, name(23, "h"), (num(24, 100),))))
        self.both(told("320", (320, 18)), program(x=e, f=f))


class Faults(Machines):

    def test_a_fault_that_is_not_asked(self):
        e = ("let", 1, (("a", ("fault", 2, "odd")),), num(3, 4))
        self.both(told("4", (4, 3)), program(x=e, y=("fault", 5, "none")), costs=[(1, 1, 1, 0), (3, 1, 0, 0)])
        e = ("con", 1, "Box", (name(2, "y"),))
        self.both(told("Box(..)", ("Box", 1)), program(x=e, y=("fault", 5, "none")), depth=0)
        self.both(("fault", "none", 5, ()), program(x=e, y=("fault", 5, "none")), depth=1)

    def test_ways_through_lets_cases_deeds_and_calls(self):
        inner = ("deed", 1, "plus", ONE, ("call", 2, name(3, "f"), (name(4, "a"),)))
        f = ("fun", 5, ("n",), ("case", 6, name(7, "n"), "m", (), ONE))
        e = ("let", 8, (("a", ("case", 9, name(10, "b"), "c", (), ONE)), ("b", ("fault", 11, "odd"))),
             ("case", 12, inner, "d", (), ONE))
        self.both(("fault", "odd", 11, ((7, 8), (10, 8))), program(x=e, f=f))
        self.both(("fault", "odd", 11, ((13, None), (7, 8), (10, 8))), program(x=("deed", 14, "plus", name(13, "y"), ONE), y=e, f=f))

    def test_asks_that_are_done_are_off_the_way(self):
        e = ("let", 1, (("a", ("deed", 2, "plus", ONE, ONE)), ("b", ("deed", 3, "plus", name(4, "a"), ("fault", 5, "odd")))), name(6, "b"))
        self.both(("fault", "odd", 5, ((6, 1),)), program(x=e))

    def test_what_was_told_ahead_of_a_fault_is_gone(self):
        e = ("con", 1, "Pair", (num(2, 3), name(4, "y")))
        self.both(("fault", "odd", 5, ()), program(x=e, y=("fault", 5, "odd")), costs=[(5, 1, 0, 0)])


class Answers(Machines):

    LONG_LIST = dict(x=("con", 1, "Cons", (num(2, 5), name(3, "y"))), y=("con", 4, "Cons", (num(5, 6), name(6, "z"))),
                     z=("con", 7, "Nil", ()))

    def test_depths(self):
        one = program(**self.LONG_LIST)
        self.both(told("Cons(.., ..)", ("Cons", 1)), one, depth=0)
        self.both(told("Cons(5, Cons(.., ..))", ("Cons", 1), (5, 2), ("Cons", 4)), one, depth=1)
        whole = told("Cons(5, Cons(6, Nil))", ("Cons", 1), (5, 2), ("Cons", 4), (6, 5), ("Nil", 7))
        for depth in (2, 3, 20, 100):
            self.both(whole, one, depth=depth)
        self.both(told("Cons(1, Nil)", ("Cons", 1), (1, 2), ("Nil", 4)),
                  program(x=("con", 1, "Cons", (num(2, 1), name(3, "y"))), y=("con", 4, "Nil", ())), depth=1)

    def test_what_is_deeper_is_not_asked(self):
        one = program(x=("con", 1, "Box", (name(2, "y"),)), y=("let", 3, (("a", ("fault", 4, "odd")),), ("con", 5, "Box", (name(6, "a"),))))
        self.both(told("Box(..)", ("Box", 1)), one, depth=0, costs=[])
        self.both(told("Box(Box(..))", ("Box", 1), ("Box", 5)), one, depth=1, costs=[(3, 1, 1, 0), (5, 1, 0, 0)])
        self.both(("fault", "odd", 4, ()), one, depth=2)

    def test_parts_within_parts_each_to_its_end(self):
        one = program(x=("con", 1, "Pair", (name(2, "y"), name(3, "z"))), y=("con", 4, "Pair", (num(5, 1), name(6, "z"))),
                      z=("deed", 7, "plus", num(8, 2), num(9, 3)))
        once = [(7, 1, 0, 0), (8, 1, 0, 0), (9, 1, 0, 0)]
        by = [(7, 2, 0, 0), (8, 2, 0, 0), (9, 2, 0, 0)]
        answer = told("Pair(Pair(1, 5), 5)", ("Pair", 1), ("Pair", 4), (1, 5), (5, 7), (5, 7))
        self.apart(one, (answer, by), (answer, once))

    def test_functions_and_numbers_below_none_among_parts(self):
        one = program(x=("con", 1, "Pair", (name(2, "y"), name(3, "z"))), y=("fun", 4, ("a",), ONE),
                      z=("deed", 7, "less", num(8, 2), num(9, 3)))
        self.both(told("Pair(FUN, -1)", ("Pair", 1), ("FUN", 4), (-1, 7)), one)

    def test_a_list_without_end_to_the_deepest(self):
        one = program(x=("con", 1, "Cons", (num(2, 0), name(3, "x"))))
        answer, costs = shared(one, "x", depth=100)
        self.assertEqual(answer[1], "Cons(0, " * 100 + "Cons(.., ..)" + ")" * 100)
        self.assertEqual((len(answer[2]), costs), (201, []))
        self.run_all(one, depth=100)

    def test_answers_of_many_heads(self):
        one = program(x=("con", 1, "Pair", (name(2, "x"), name(3, "x"))))
        answer, _ = shared(one, "x", depth=14)
        self.assertEqual(len(answer[2]), 2 ** 15 - 1)
        self.assertEqual(by_name(one, "x", depth=14)[0], answer)
        self.assertEqual(by_rows(rows_of(one), "x", depth=14)[0], answer)

    def test_an_answer_of_a_long_list(self):
        f = ("fun", 1, ("n",), ("case", 2, name(3, "n"), "m", ((0, (), ("con", 4, "Nil", ())),), (
            "let", 5, (("k", ("call", 6, name(7, "f"), (name(8, "r"),))), ("r", ("deed", 9, "less", name(10, "n"), num(11, 1)))),
            ("con", 12, "Cons", (name(13, "n"), name(14, "k"))))))
        one = program(x=("call", 20, name(21, "f"), (num(22, 90),)), f=f)
        answer, _ = shared(one, "x", depth=100)
        self.assertEqual(answer[1], "".join(f"Cons({n}, " for n in range(90, 0, -1)) + "Nil" + ")" * 90)
        self.run_all(one, depth=100)


class Long(Machines):

    LOOP = ("fun", 1, ("a",), ("call", 2, name(3, "f"), (name(4, "a"),)))

    def test_most_just_met_and_one_too_few(self):
        e = ("deed", 5, "plus", num(6, 1), name(7, "y"))
        one = program(x=e, y=("deed", 8, "plus", num(9, 2), num(10, 3)))
        full = [(5, 1, 0, 0), (6, 1, 0, 0), (7, 1, 0, 1), (8, 1, 0, 0), (9, 1, 0, 0), (10, 1, 0, 0)]
        self.both(told("6", (6, 5)), one, costs=full, most=6)
        self.both(("long",), one, costs=full[:-1], most=5)
        self.both(("long",), one, costs=full[:3], most=3)
        self.both(("long",), one, costs=full[:2], most=2)
        self.both(("long",), one, costs=full[:1], most=1)

    def test_what_is_no_part_beyond_is_told_all_the_same(self):
        e = ("let", 5, (("a", name(6, "a")),), num(7, 3))
        self.both(("long",), program(x=e), costs=[(5, 1, 1, 0)], most=1)
        self.both(told("3", (3, 7)), program(x=e), costs=[(5, 1, 1, 0), (7, 1, 0, 0)], most=2)
        e = ("con", 5, "Pair", (name(6, "y"), num(7, 3)))
        self.both(("long",), program(x=e, y=("deed", 8, "plus", ONE, ONE)), costs=[(0, 1, 0, 0), (8, 1, 0, 0)], most=2)
        self.both(told("7", (7, 8)), program(x=num(8, 7)), costs=[], most=1)

    def test_a_run_without_end(self):
        one = program(x=("call", 5, name(6, "f"), (num(7, 1),)), f=self.LOOP)
        self.both(("long",), one, costs=[(2, 10, 0, 0), (3, 9, 0, 0), (5, 1, 0, 0), (6, 1, 0, 0)], most=21)
        for told_costs in (by_name(one, "x")[1], shared(one, "x")[1], by_rows(rows_of(one), "x")[1]):
            self.assertEqual(sum(gone for _, gone, _, _ in told_costs), MOST)

    def test_a_million(self):
        one = program(x=("call", 5, name(6, "f"), (num(7, 1),)), f=self.LOOP)
        for run, thing in ((by_name, one), (shared, one), (by_rows, rows_of(one))):
            answer, costs = run(thing, "x", most=10 ** 6)
            self.assertEqual((answer, sum(gone for _, gone, _, _ in costs)), (("long",), 10 ** 6))

    def test_a_million_without_a_call_s_end(self):
        # f n = 1 + f n: what waits for a head grows with each part, but no ask does.
        f = ("fun", 1, ("a",), ("deed", 8, "plus", num(9, 1), ("call", 2, name(3, "f"), (name(4, "a"),))))
        one = program(x=("call", 5, name(6, "f"), (num(7, 1),)), f=f)
        for run, thing in ((by_name, one), (shared, one), (by_rows, rows_of(one))):
            self.assertEqual(run(thing, "x", most=10 ** 6)[0], ("long",))

    def test_a_thing_that_asks_itself(self):
        one = program(x=name(1, "x"))
        self.apart(one, (("long",), [(1, 2001, 0, 2001)]), (("long",), [(1, 1, 0, 1)]))
        e = ("let", 1, (("a", ("deed", 2, "plus", ONE, name(3, "b"))), ("b", ("deed", 4, "plus", ONE, name(5, "a")))), name(6, "a"))
        _, once = self.run_all(program(x=e))
        self.assertEqual(once, (("long",), [(0, 2, 0, 0), (1, 1, 2, 0), (2, 1, 0, 0), (3, 1, 0, 1), (4, 1, 0, 0), (5, 1, 0, 1),
                                            (6, 1, 0, 1)]))

    def test_a_top_that_is_answered_is_being_worked(self):
        one = program(x=("deed", 1, "plus", ONE, name(2, "y")), y=name(3, "x"))
        _, once = self.run_all(one)
        self.assertEqual(once, (("long",), [(0, 1, 0, 0), (1, 1, 0, 0), (2, 1, 0, 1), (3, 1, 0, 1)]))

    def test_behind_its_head_a_thing_may_stand_in_itself(self):
        one = program(x=("let", 1, (("a", ("case", 2, ONE, "c", (), ("con", 3, "Box", (name(4, "a"),)))),), name(5, "a")))
        once = shared(one, "x", depth=3)
        self.assertEqual(once[0], told("Box(Box(Box(Box(..))))", *[("Box", 3)] * 4))
        self.assertEqual(once[1], [(0, 1, 0, 0), (1, 1, 1, 0), (2, 1, 0, 0), (3, 1, 0, 0), (5, 1, 0, 1)])
        self.run_all(one, depth=3)

    def deep(self, asks, last):
        """f n = 1 + the thing of n - 1: for each n an ask on the way, and at the end another one, of n itself."""
        f = ("fun", 1, ("n",), ("case", 2, name(3, "n"), "m", ((0, (), last),), (
            "let", 5, (("k", ("call", 6, name(7, "f"), (name(8, "r"),))), ("r", ("deed", 9, "less", name(10, "m"), num(11, 1)))),
            ("deed", 12, "plus", num(13, 1), name(14, "k")))))
        return program(x=("call", 20, name(21, "f"), (num(22, asks),)), f=f)

    def test_ways_of_two_thousand_asks_and_one_more(self):
        way = ((14, 5),) * 1999
        one = self.deep(1999, name(30, "y"))
        one[2].append(("y", ("fault", 31, "odd")))
        once = shared(one, "x", most=100000)
        self.assertEqual(once[0], ("fault", "odd", 31, (*way, (30, None))))
        self.assertEqual(by_rows(rows_of(one), "x", most=100000), once)
        self.assertEqual(shared(self.deep(1999, num(30, 0)), "x", most=100000)[0], told("1999", (1999, 12)))
        one = self.deep(2000, num(30, 0))
        once = shared(one, "x", most=100000)
        self.assertEqual(once[0], ("long",))
        self.assertEqual(by_rows(rows_of(one), "x", most=100000), once)
        self.assertEqual(once, Second(one, True, 100000).run("x", 20))
        counts = {p: counts for p, *counts in once[1]}
        # The ask that ends the run is counted.
        self.assertEqual((counts[14], counts[3]), ([2000, 0, 2000], [2001, 0, 2000]))

    def test_by_name_a_way_of_two_thousand_asks(self):
        for asks, wanted in [(20, "fault"), (1999, "fault"), (2000, "long")]:
            # g hands a thing on, each time within another one; numbers go on as heads, so that none is asked again.
            e = ("early", 15, "z", num(16, asks), 17, ("let", 18, (("c", ("fault", 19, "odd")),), (
                "call", 20, name(21, "g"), (name(22, "z"), name(23, "c")))))
            g = ("fun", 24, ("k", "d"), ("early", 25, "h", name(26, "k"), 27, ("case", 28, name(29, "h"), "i", (
                (0, (), name(5, "d")),), ("let", 6, (("j", name(7, "d")), ("l", ("deed", 8, "less", name(9, "i"), num(10, 1)))),
                                          ("call", 11, name(12, "g"), (name(13, "l"), name(14, "j")))))))
            one = program(x=e, g=g)
            by, once = by_name(one, "x", most=100000), shared(one, "x", most=100000)
            self.assertEqual(by[0], once[0])
            self.assertEqual(by[0][0], wanted)
            if wanted == "fault":
                self.assertEqual(by[0], ("fault", "odd", 19, ((5, 6),) + ((7, 6),) * (asks - 1) + ((7, 18),)))
            self.assertEqual(by_rows(rows_of(one), "x", most=100000), once)

    def test_early_and_now_count_on_the_way(self):
        by, once = self.run_all(program(x=("now", 1, 2, "z", name(3, "x"))))
        self.assertEqual(once, (("long",), [(1, 1, 0, 1), (3, 1, 0, 1)]))
        self.assertEqual(by, (("long",), [(1, 1001, 0, 1001), (3, 1000, 0, 1000)]))
        by, once = self.run_all(program(x=("early", 2, "z", name(3, "x"), 1, ONE)))
        self.assertEqual(once, (("long",), [(1, 0, 0, 1), (2, 1, 0, 0), (3, 1, 0, 1)]))
        self.assertEqual(by, (("long",), [(1, 0, 0, 1001), (2, 1001, 0, 0), (3, 1000, 0, 1000)]))


class Costs(Machines):

    def test_places_that_several_parts_share(self):
        e = ("let", 3, (("a", ("deed", 3, "plus", num(3, 1), num(3, 2))), ("b", name(3, "a"))), ("deed", 3, "plus", name(3, "b"), name(3, "a")))
        by, once = self.run_all(program(x=e))
        self.assertEqual(once, (told("6", (6, 3)), [(3, 8, 2, 2)]))
        self.assertEqual(by, (told("6", (6, 3)), [(3, 11, 2, 3)]))

    def test_rising_by_places(self):
        e = ("deed", 9, "plus", ("now", 7, 8, "a", num(5, 1)), num(1, 1))
        self.both(told("2", (2, 9)), program(x=e), costs=[(1, 1, 0, 0), (5, 1, 0, 0), (7, 1, 0, 1), (9, 1, 0, 0)])

    def test_places_of_which_just_one_count_is_not_0(self):
        e = ("early", 2, "a", num(2, 1), 1, num(2, 2))
        self.both(told("2", (2, 2)), program(x=e), costs=[(1, 0, 0, 1), (2, 3, 0, 0)])


class Wide(Machines):

    def test_parts_two_hundred_within_one_another(self):
        def nested(wrap, many):
            e = ONE
            for number in range(many):
                e = wrap(number, e)
            return e
        for wrap, wanted in [
                (lambda number, e: ("deed", 1, "plus", ONE, e), "201"), (lambda number, e: ("deed", 1, "plus", e, ONE), "201"),
                (lambda number, e: ("now", 1, 2, "z", e), "1"),
                (lambda number, e: ("early", 1, f"a{number}", ONE, 2, e), "1"),
                (lambda number, e: ("early", 1, f"a{number}", e, 2, name(3, f"a{number}")), "1"),
                (lambda number, e: ("let", 1, ((f"a{number}", ONE),), e), "1"),
                (lambda number, e: ("let", 1, ((f"a{number}", e),), name(3, f"a{number}")), "1"),
                (lambda number, e: ("case", 1, e, f"a{number}", (), name(3, f"a{number}")), "1"),
                (lambda number, e: ("case", 1, ONE, f"a{number}", ((1, (), e),), None), "1"),
                (lambda number, e: ("fun", 1, (f"a{number}",), e), "FUN"),
                (lambda number, e: ("let", 1, ((f"a{number}", ("fun", 2, (f"b{number}",), e)),), (
                    "call", 3, name(4, f"a{number}"), (ONE,))), "1")]:
            one = program(x=nested(wrap, 100 if wrap(0, ONE)[0] == "let" and wrap(0, ONE)[2][0][1][0] == "fun" else 200))
            by, once = self.run_all(one)
            self.assertEqual((by[0][1], once[0][1]), (wanted, wanted))

    def test_names_from_far_around(self):
        e = ("deed", 1, "plus", name(2, "a0"), name(3, "a198"))
        for number in reversed(range(199)):
            e = ("fun", 4, (f"a{number}",), e)
        atoms = tuple(num(5, 1000 + number) for number in range(60))
        one = program(x=("call", 6, name(7, "y3"), (*atoms[:19],)), y3=("call", 6, name(7, "y2"), atoms),
                      y2=("call", 6, name(7, "y1"), atoms), y1=("call", 6, name(7, "f"), atoms), f=e)
        self.both(told(str(1000 + 1018), (2018, 1)), one)

    def test_sixty_of_all_things(self):
        many = tuple(f"a{number}" for number in range(60))
        data = {**DATA, "Big": (("Big", 60),)}
        e = ("let", 1, tuple((x, name(2, "y")) for x in many), ("con", 3, "Big", tuple(name(4, x) for x in many)))
        one = program(data=data, x=e, y=("con", 5, "Nil", ()))
        by, once = self.run_all(one)
        self.assertEqual(once[0][1], "Big(" + ", ".join(["Nil"] * 60) + ")")
        f = ("fun", 1, many, ("deed", 2, "less", name(3, many[0]), name(4, many[59])))
        self.both(told("-59", (-59, 2)), program(x=("call", 5, name(6, "f"), tuple(num(7, n) for n in range(60))), f=f))
        tops = {f"t{number}": name(1, f"t{number + 1}") for number in range(59)}
        self.both(told("4", (4, 9)), program(**tops, t59=num(9, 4)), x="t0")

    def test_many_parts(self):
        e = ONE
        for _ in range(10):
            e = ("deed", 1, "plus", e, e)
        self.both(told("1024", (1024, 1)), program(x=e))


class Refused(Machines):

    def test_no_program_ahead_of_all(self):
        for thing, wrong in [(None, ("program",)), (([None], {}, []), ("places", 0)), (program(x=None), ("part", ("x", ()))),
                             (program(x=name(0, "y")), ("free", ("x", ())))]:
            for function in (by_name, shared):
                for x, bounds in [("x", {}), ("y", {}), (None, {"depth": -1}), ("x", {"most": 0})]:
                    with self.assertRaises(NoProgram) as told_error:
                        function(thing, x, **bounds)
                    self.assertEqual(told_error.exception.wrong, wrong)
            self.assertEqual(refusal(self, NoProgram, rows_of, thing).wrong, wrong)

    def test_no_name(self):
        one = program(x=("let", 1, (("a", ONE),), name(2, "a")))
        for function, thing in ((by_name, one), (shared, one), (by_rows, rows_of(one))):
            for x in ("y", "a", "", "X", None, 0, ("x",), ["x"], {}, "x ", "x.1", b"x"):
                for bounds in ({}, {"depth": -1}, {"most": 0}):
                    with self.assertRaises(NoName) as told_error:
                        function(thing, x, **bounds)
                    self.assertIs(told_error.exception.name, x)

    def test_no_count(self):
        one = program(x=ONE)
        for function, thing in ((by_name, one), (shared, one), (by_rows, rows_of(one))):
            for bounds in [{"depth": depth} for depth in (-1, 101, True, False, None, "1", 1.0, (1,), [1])] + \
                          [{"most": most} for most in (0, -1, 10 ** 6 + 1, True, None, "1", 1.0, [1], 10 ** 70)]:
                with self.assertRaises(NoCount):
                    function(thing, "x", **bounds)
            for bounds in ({"depth": 0}, {"depth": 100}, {"most": 1}, {"most": 10 ** 6}, {"depth": 0, "most": 1}):
                self.assertEqual(function(thing, "x", **bounds), (told("1", (1, 0)), []))
        self.assertEqual(MOST, 20000)


class Calling(Machines):

    def test_new_and_again(self):
        one = program(**Answers.LONG_LIST)
        rows = rows_of(one)
        for function, thing in ((by_name, one), (shared, one), (by_rows, rows)):
            first = function(thing, "x")
            function(thing, "x")[0][2].clear()
            function(thing, "x")[1].append(None)
            self.assertEqual(function(thing, "x"), first)
            self.assertIs(first[1].__class__, list)
            self.assertIs(first[0][2].__class__, list)
        rows_of(one).clear()
        self.assertEqual(rows_of(one), rows)
        read_rows(rows_text(rows)).clear()
        self.assertEqual(read_rows(rows_text(rows)), rows)

    def test_arguments_by_places_and_names(self):
        one = program(x=ONE)
        wanted = (told("1", (1, 0)), [])
        self.assertEqual(by_name(program=one, x="x", depth=3, most=4), wanted)
        self.assertEqual(shared(program=one, x="x", most=4, depth=3), wanted)
        self.assertEqual(by_rows(rows=rows_of(program=one), x="x", depth=3, most=4), wanted)
        self.assertEqual(read_rows(text=rows_text(rows=rows_of(one))), rows_of(one))
        for function in (by_name, shared):
            self.assertEqual(str(inspect.signature(function)), "(program, x, *, depth=20, most=20000)")
        self.assertEqual(str(inspect.signature(by_rows)), "(rows, x, *, depth=20, most=20000)")
        for function in (by_name, shared):
            with self.assertRaises(TypeError):
                function(one, "x", 3)

    def test_each_function_is_defined_in_its_file(self):
        for file, names in ((machines_file, ("by_name", "shared")), (rows_file, ("rows_of", "rows_text", "read_rows", "by_rows"))):
            for word in names:
                self.assertEqual(getattr(file, word).__module__, file.__name__)


if __name__ == "__main__":
    unittest.main()
