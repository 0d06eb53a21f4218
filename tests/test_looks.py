"""Looks back: profile, led_costs, Steps, asks_of, asked_by (28 to 30)."""

import inspect
import random
import unittest

from slumberway import looks as looks_file
from slumberway.errors import NoCount, NoName, NoProgram, NoSign, NoStep
from slumberway.lexemes import lexemes
from slumberway.looks import Steps, asked_by, asks_of, led_costs, profile
from slumberway.machines import MOST, by_name, shared
from slumberway.making import core
from slumberway.printer import led, printed
from slumberway.turns import all_turned
from tests.drawn import drawn
from tests.grown import Grower
from tests.helper import refusal
from tests.second_machine import Second

DATA = {"False": (("False", 0), ("True", 0)), "True": (("False", 0), ("True", 0)), "Box": (("Box", 1),)}
ONE = ("num", 0, 1)
SLOW = ("deed", 1, "plus", ("num", 2, 1), ("num", 3, 2))


def name(p, x):
    return ("name", p, x)


def program(**tops):
    return ([(1 + number // 4, 1 + number % 4) for number in range(20)], dict(DATA), list(tops.items()))


class Profiles(unittest.TestCase):

    ONE = ([(3, 1), (1, 5), (3, 1), (1, 2), (2, 9), (1, 5)], {}, [("x", ("num", 0, 1))])

    def test_places_and_rows(self):
        costs = [(0, 1, 2, 3), (1, 10, 20, 30), (2, 100, 0, 0), (3, 0, 0, 1), (5, 1, 1, 1)]
        before = list(costs)
        self.assertEqual(profile(self.ONE, costs, "place"), [((1, 2), 0, 0, 1), ((1, 5), 11, 21, 31), ((3, 1), 101, 2, 3)])
        self.assertEqual(profile(self.ONE, costs, "row"), [(1, 11, 21, 32), (3, 101, 2, 3)])
        self.assertEqual(costs, before)
        self.assertEqual(profile(program=self.ONE, costs=[], by="row"), [])
        profile(self.ONE, costs, "row").clear()
        self.assertEqual(len(profile(self.ONE, costs, "row")), 2)

    def test_costs_of_runs(self):
        text = ["f n = if n < 1 then 0 else n + f (n - 1)", "x = f 3"]
        one = core(text)
        _, costs = shared(one, "x")
        rows = profile(one, costs, "row")
        self.assertEqual([row for row, *_ in rows], [1, 2])
        self.assertEqual(sum(gone for _, gone, _, _ in rows), sum(gone for _, gone, _, _ in costs))
        self.assertEqual(profile(one, costs, "place"), [(one[0][p], *counts) for p, *counts in costs])

    def test_refused(self):
        for by in ("Row", "places", "", None, 1, ["row"], ("row",), True):
            refusal(self, NoCount, profile, self.ONE, [], by)
            self.assertEqual(refusal(self, NoProgram, profile, None, [], by).wrong, ("program",))
        self.assertEqual(str(inspect.signature(profile)), "(program, costs, by)")


class Led(unittest.TestCase):

    def test_to_another_layout(self):
        text = ["f n = if n < 1 then 0 else n + f (n - 1)", "x = f 3"]
        other = ["-- hello", "f n = if n < 1", "  then 0", "  else n + f (n - 1)", "", "x = f 3"]
        table = led(text, other)
        _, costs = shared(core(text), "x")
        _, others = shared(core(other), "x")
        self.assertEqual(costs, others)
        wanted = [(core(other)[0][p], *counts) for p, *counts in costs]
        self.assertEqual(led_costs(text, costs, table), wanted)
        self.assertEqual(led_costs(text=text, costs=costs, table=led(text, text)), [(core(text)[0][p], *counts) for p, *counts in costs])
        self.assertEqual(led_costs(text, [], table), [])

    def test_rising_by_the_other_places(self):
        text = ["a = 1", "b = 2"]
        places = [place for place, _, _ in lexemes(text)]
        table = dict(zip(places, reversed(places)))
        self.assertEqual(led_costs(text, [(0, 1, 2, 3), (5, 4, 5, 6)], table), [((1, 1), 4, 5, 6), ((2, 5), 1, 2, 3)])

    def test_refused(self):
        self.assertEqual(refusal(self, NoSign, led_costs, ["?"], [], {}).place, (1, 1))


class Walked(unittest.TestCase):

    def walk(self, one, x, **bounds):
        """Goes by all steps of a run, beside what the second machine looked on; back to the begin, and forth again."""
        depth, most = bounds.get("depth", 20), bounds.get("most", MOST)
        second = Second(one, True, most)
        answer, costs = second.run(x, depth)
        steps = Steps(one, x, **bounds)
        told = [(0, steps.costs())]
        self.assertEqual((len(steps), steps.costs()), (0, []))
        for number, wanted in enumerate(second.gone_by, start=1):
            self.assertEqual(steps.next(), wanted)
            self.assertEqual(len(steps), number)
            told.append((number, steps.costs()))
        for _ in range(3):
            self.assertEqual(steps.next(), ("end", answer))
        self.assertEqual((len(steps), steps.costs()), told[-1])
        self.assertEqual(steps.costs(), costs)
        for wanted, part in zip(told[-2::-1], second.gone_by[::-1]):
            self.assertIsNone(steps.back())
            self.assertEqual((len(steps), steps.costs()), wanted)
            # The part that was taken back comes again.
            if len(steps) % 7 == 0:
                self.assertEqual(steps.next(), part)
                steps.back()
        refusal(self, NoStep, steps.back)
        refusal(self, NoStep, steps.back)
        self.assertEqual((len(steps), steps.costs()), (0, []))
        self.assertEqual([steps.next() for _ in second.gone_by], second.gone_by)
        self.assertEqual(steps.next(), ("end", answer))
        return second

    def test_by_hand(self):
        one = program(x=("let", 4, (("a", SLOW),), ("deed", 5, "times", name(6, "a"), name(7, "a"))))
        steps = Steps(one, "x")
        wanted = [((4, ()), [(4, 1, 1, 0)]), ((5, ()), [(4, 1, 1, 0), (5, 1, 0, 0)]),
                  ((6, ()), [(4, 1, 1, 0), (5, 1, 0, 0), (6, 1, 0, 1)]),
                  ((1, ((6, 4),)), [(1, 1, 0, 0), (4, 1, 1, 0), (5, 1, 0, 0), (6, 1, 0, 1)])]
        for part, costs in wanted:
            self.assertEqual(steps.next(), part)
            self.assertEqual(steps.costs(), costs)
        steps.back()
        self.assertEqual(steps.costs(), wanted[2][1])
        self.assertEqual([steps.next() for _ in range(5)],
                         [(1, ((6, 4),)), (2, ((6, 4),)), (3, ((6, 4),)), (7, ()), ("end", ("told", "9", [(9, 5)]))])
        self.walk(one, "x")

    def test_a_top_that_is_a_head(self):
        steps = Steps(program(x=("num", 3, 7)), "x")
        for _ in range(2):
            self.assertEqual(steps.next(), ("end", ("told", "7", [(7, 3)])))
            refusal(self, NoStep, steps.back)
            self.assertEqual((len(steps), steps.costs()), (0, []))

    def test_behind_the_end_the_last_part_is_taken_back(self):
        one = program(x=SLOW)
        steps = Steps(one, "x")
        for _ in range(9):
            steps.next()
        self.assertEqual(len(steps), 3)
        steps.back()
        self.assertEqual(len(steps), 2)
        self.assertEqual([steps.next(), steps.next()[0]], [(3, ()), "end"])

    def test_bounds(self):
        one = program(x=("con", 4, "Box", (name(5, "y"),)), y=SLOW, loop=("call", 6, name(7, "f"), (ONE,)),
                      f=("fun", 8, ("a",), ("call", 9, name(10, "f"), (name(11, "a"),))), z=name(12, "z"), bad=("fault", 13, "odd"))
        self.assertEqual(Steps(one, "x", depth=0).next(), ("end", ("told", "Box(..)", [("Box", 4)])))
        for most in (1, 2, 3, 63, 64, 65, 511, 512, 513, 600):
            self.assertEqual(len(self.walk(one, "loop", most=most).gone_by), most)
            self.walk(one, "x", most=most)
        self.walk(one, "z")
        self.walk(one, "bad")
        self.assertEqual(len(Steps(one, "x", most=10 ** 6)), 0)

    def test_drawn_programs(self):
        for seed in range(60):
            chance = random.Random(seed)
            one = drawn(chance)
            for x, _ in one[2]:
                self.walk(one, x, depth=3, most=chance.choice([5, 30, 150]))

    def test_to_any_point(self):
        for seed in range(30):
            chance = random.Random(seed)
            one = drawn(chance)
            x = one[2][0][0]
            second = Second(one, True, 200)
            second.run(x, 2)
            many = len(second.gone_by)
            steps, at = Steps(one, x, depth=2, most=200), 0
            for _ in range(120):
                if chance.random() < 0.5 and at < many:
                    self.assertEqual(steps.next(), second.gone_by[at])
                    at += 1
                elif at:
                    steps.back()
                    at -= 1
                self.assertEqual(len(steps), at)
            fresh = Steps(one, x, depth=2, most=200)
            for _ in range(at):
                fresh.next()
            self.assertEqual(steps.costs(), fresh.costs())

    def test_its_own(self):
        one = program(x=SLOW)
        steps = Steps(program=one, x="x", depth=3, most=100)
        # What is done with the program's lists by now is nothing to the steps.
        one[0].clear()
        one[2].clear()
        self.assertEqual([steps.next()[0] for _ in range(4)], [1, 2, 3, "end"])
        steps.next()[1][2].clear()
        steps.costs().clear()
        self.assertEqual((steps.next(), steps.costs()), (("end", ("told", "3", [(3, 1)])), [(1, 1, 0, 0), (2, 1, 0, 0), (3, 1, 0, 0)]))
        other = Steps(program(x=SLOW), "x")
        other.next()
        self.assertEqual((len(steps), len(other)), (3, 1))
        self.assertEqual(str(inspect.signature(Steps)), "(program, x, *, depth=20, most=20000)")
        for word in ("next", "back", "costs", "__len__"):
            self.assertIn(word, vars(Steps))

    def test_a_long_run(self):
        one = program(loop=("call", 6, name(7, "f"), (ONE,)), f=("fun", 8, ("a",), ("deed", 12, "plus", ONE, ("call", 9, name(10, "f"), (name(11, "a"),)))))
        steps = Steps(one, "loop", most=10 ** 6)
        for _ in range(5000):
            steps.next()
        for _ in range(4990):
            steps.back()
        self.assertEqual((len(steps), sum(gone for _, gone, _, _ in steps.costs())), (10, 10))

    def test_refused_as_shared(self):
        one = program(x=ONE)
        self.assertEqual(refusal(self, NoProgram, Steps, None, "x").wrong, ("program",))
        self.assertEqual(refusal(self, NoName, Steps, one, "y").name, "y")
        for bounds in ({"depth": -1}, {"depth": True}, {"most": 0}, {"most": 10 ** 6 + 1}):
            with self.assertRaises(NoCount):
                Steps(one, "x", **bounds)
            with self.assertRaises(NoName):
                Steps(one, "y", **bounds)


class Asks(unittest.TestCase):

    ONE = program(x=("let", 4, (("a", SLOW), ("b", ("deed", 8, "plus", name(9, "a"), name(9, "c"))), ("c", SLOW)),
                     ("deed", 5, "times", name(6, "b"), ("early", 10, "d", name(11, "y"), 12, ("now", 13, 14, "e", name(9, "c"))))),
                  y=SLOW)

    def test_all_in_order(self):
        self.assertEqual(asks_of(self.ONE, "x"), [(6, 4), (9, 4), (9, 4), (12, 10), (11, None), (13, 14)])
        asks_of(self.ONE, "x").clear()
        self.assertEqual(len(asks_of(program=self.ONE, x="x")), 6)
        self.assertEqual(asks_of(self.ONE, "y"), [])

    def test_ways(self):
        self.assertEqual(asked_by(self.ONE, "x", 6, 0), ((6, 4),))
        self.assertEqual(asked_by(self.ONE, "x", 9, 0), ((6, 4), (9, 4)))
        self.assertEqual(asked_by(self.ONE, "x", 9, 1), ((6, 4), (9, 4)))
        self.assertEqual(asked_by(self.ONE, "x", 11, 0), ((12, 10), (11, None)))
        self.assertEqual(asked_by(program=self.ONE, x="x", p=13, n=0), ((13, 14),))

    def test_no_step(self):
        for p, n in [(9, 2), (9, -1), (6, 1), (5, 0), (19, 0), (500, 0), (12, 1), (6, 10 ** 70), (6, -(10 ** 70))]:
            refusal(self, NoStep, asked_by, self.ONE, "x", p, n)

    def test_the_ask_that_ends_a_run(self):
        one = program(x=("let", 1, (("a", ("deed", 2, "plus", ONE, name(3, "b"))), ("b", name(4, "a"))), name(5, "a")))
        self.assertEqual(asks_of(one, "x"), [(5, 1), (3, 1), (4, 1)])
        self.assertEqual(asked_by(one, "x", 4, 0), ((5, 1), (3, 1), (4, 1)))

    def test_drawn_programs(self):
        seen = 0
        for seed in range(160):
            one = drawn(random.Random(seed), wide=False)
            for x, _ in one[2]:
                answer, costs = shared(one, x)
                if sum(gone for _, gone, _, _ in costs) > 2000:
                    continue
                second = Second(one, True, MOST)
                second.run(x, 20)
                self.assertEqual(asks_of(one, x), [way[-1] for way in second.asks])
                counts = {}
                for way in second.asks[:60]:
                    p = way[-1][0]
                    self.assertEqual(asked_by(one, x, p, counts.get(p, 0)), way)
                    counts[p] = counts.get(p, 0) + 1
                    seen += 1
                for p, _, _, asked in costs:
                    refusal(self, NoStep, asked_by, one, x, p, asked)
        self.assertGreater(seen, 300)

    def test_refused(self):
        self.assertEqual(refusal(self, NoProgram, asks_of, None, "x").wrong, ("program",))
        self.assertEqual(refusal(self, NoName, asks_of, self.ONE, "z").name, "z")
        self.assertEqual(refusal(self, NoProgram, asked_by, None, "x", 1, -1).wrong, ("program",))
        self.assertEqual(refusal(self, NoName, asked_by, self.ONE, "z", 1, -1).name, "z")

    def test_each_is_defined_in_its_file(self):
        for word, signature in [("profile", "(program, costs, by)"), ("led_costs", "(text, costs, table)"), ("asks_of", "(program, x)"),
                                ("asked_by", "(program, x, p, n)")]:
            function = getattr(looks_file, word)
            self.assertEqual((str(inspect.signature(function)), function.__module__), (signature, looks_file.__name__))


class Texts(unittest.TestCase):

    def test_texts_laid_out_otherwise_have_the_same_costs_led(self):
        for seed in range(25):
            text = printed(Grower(random.Random(seed), 3).tree(2))
            other = []
            for row in text:
                other.extend(["", "  -- a remark", row + " -- another"] if len(row) < 85 else [row])
            table = led(text, other)
            one, two = core(text), core(other)
            for x, _ in one[2]:
                for machine in (by_name, shared):
                    answer, costs = machine(one, x, depth=3, most=500)
                    others, more = machine(two, x, depth=3, most=500)
                    self.assertEqual(answer, others)
                    self.assertEqual(led_costs(text, costs, table), profile(two, more, "place"))
            turned_one, turns = all_turned(one, most=30)
            turned_two, others = all_turned(two, most=30)
            self.assertEqual(turns, others)
            self.assertEqual(turned_one[1:], turned_two[1:])


if __name__ == "__main__":
    unittest.main()
