"""Workshops: deeds by hand and at random, beside what one made anew of the rows tells (31)."""

import inspect
import random
import unittest

from slumberway import workshop as workshop_file
from slumberway.errors import (BadRow, Broken, Clash, Counts, Endless, NoAddress, NoBack, NoCount, NoName, NoPlace, NoReading,
                               NoSign, Parts, TooMany, Twice, Unknown)
from slumberway.kinds import kind_at, kinds
from slumberway.machines import by_name, shared
from slumberway.making import core
from slumberway.printer import printed
from slumberway.reader import tree_of
from slumberway.rows import by_rows, rows_of
from slumberway.turns import all_turned
from slumberway.workshop import Workshop
from tests.grown import Grower
from tests.helper import refusal
from tests.second_settled import looked_anew

REFUSALS = (NoSign, NoReading, Twice, Counts, Parts, Unknown, Clash, Endless)
LIST = "data List a = Nil | Cons a (List a)"


def made(rows):
    """A workshop made anew of rows."""
    told = Workshop()
    for number, row in enumerate(rows, start=1):
        told.put(number, row)
    return told


def refused(rows):
    """Tells what a text's refusal tells, None of one that isn't refused."""
    try:
        kinds(rows)
    except REFUSALS as error:
        return (error.__class__.__name__, *vars(error).values())
    return None


def costs_by_rows(program, costs):
    sums = {}
    for p, *counts in costs:
        row = program[0][p][0]
        sums[row] = tuple(one + other for one, other in zip(sums.get(row, (0, 0, 0)), counts))
    return sums


class Rows(unittest.TestCase):

    def test_at_first(self):
        one = Workshop()
        self.assertEqual((one.rows(), one.settled(), one.costs()), ([], [], []))
        self.assertEqual(one.fault(), ("NoReading", (1, 1), ["data", "name"]))
        refusal(self, NoBack, one.back)

    def test_put_cut_and_change(self):
        one = Workshop()
        self.assertIsNone(one.put(1, "b = 1"))
        one.put(1, "a = 1")
        one.put(3, "c = 1")
        self.assertEqual(one.rows(), ["a = 1", "b = 1", "c = 1"])
        self.assertIsNone(one.cut(2))
        self.assertEqual(one.rows(), ["a = 1", "c = 1"])
        self.assertIsNone(one.change(2, ""))
        self.assertEqual(one.rows(), ["a = 1", ""])
        one.put(at=2, row="d = 2")
        one.change(at=1, row="e = 3")
        one.cut(at=3)
        self.assertEqual(one.rows(), ["e = 3", "d = 2"])
        self.assertIsNone(one.back())
        self.assertEqual(one.rows(), ["e = 3", "d = 2", ""])
        one.rows().clear()
        self.assertEqual(len(one.rows()), 3)

    def test_no_place(self):
        one = made(["a = 1", "b = 2"])
        for at in (0, -1, 4, None, True, "1", 1.0, (1,), 10 ** 70):
            refusal(self, NoPlace, one.put, at, "c = 3")
            refusal(self, NoPlace, one.put, at, None)
            refusal(self, NoPlace, one.change, at, None)
            refusal(self, NoPlace, one.cut, at)
        for at in (3,):
            refusal(self, NoPlace, one.change, at, "c = 3")
            refusal(self, NoPlace, one.cut, at)
        refusal(self, NoPlace, Workshop().cut, 1)
        refusal(self, NoPlace, Workshop().change, 1, "a = 1")
        self.assertEqual(one.rows(), ["a = 1", "b = 2"])

    def test_bad_rows(self):
        one = made(["a = 1"])
        for row in (None, 1, True, b"a", ["a"], ("a",), "a" * 101, "\n", "a\tb", "\u00e4", "\x7f", "a\x00", "\u00a0", " " * 101):
            refusal(self, BadRow, one.put, 1, row)
            refusal(self, BadRow, one.put, 2, row)
            refusal(self, BadRow, one.change, 1, row)
        for row in ("", " ", "~" * 100, "".join(chr(sign) for sign in range(32, 127))):
            one.put(1, row)
            one.change(1, row)
            self.assertEqual(one.rows()[0], row)

    def test_too_many(self):
        one = made([f"-- {number}" for number in range(119)])
        one.put(120, "a = 1")
        for at in (1, 60, 121):
            refusal(self, TooMany, one.put, at, "b = 1")
            refusal(self, BadRow, one.put, at, "\n")
        refusal(self, NoPlace, one.put, 122, "b = 1")
        one.change(5, "b = 1")
        one.cut(1)
        one.put(1, "c = 1")
        self.assertEqual(len(one.rows()), 120)
        self.assertEqual(sorted(one.kinds()), ["a", "b", "c"])

    def test_a_refused_deed_changes_nothing(self):
        one = made([LIST, "f x = x", "g = f 1"])
        one.ask("g")
        one.change(2, "f x = Cons x Nil")
        one.ask("g")
        before = (one.rows(), one.settled(), one.costs(), one.fault(), one.kinds())
        for deed, told in [(one.put, (9, "a")), (one.put, (1, "\n")), (one.cut, (0,)), (one.change, (4, "a")), (one.change, (1, None))]:
            with self.assertRaises((NoPlace, BadRow)):
                deed(*told)
            self.assertEqual((one.rows(), one.settled(), one.costs(), one.fault(), one.kinds()), before)
        one.back()
        self.assertEqual(one.rows(), [LIST, "f x = x", "g = f 1"])

    def test_two_workshops_know_nothing_of_one_another(self):
        one, other = made(["a = 1"]), made(["b = 2"])
        one.ask("a")
        one.put(1, "c = 3")
        self.assertEqual((other.rows(), other.costs(), list(other.kinds())), (["b = 2"], [], ["b"]))
        refusal(self, NoName, other.ask, "a")
        other.back()
        refusal(self, NoBack, other.back)
        self.assertEqual(one.rows(), ["c = 3", "a = 1"])


class Told(unittest.TestCase):

    TEXT = [LIST, "map f Nil = Nil", "map f (Cons x r) = Cons (f x) (map f r)", "x = map (fun n -> n * n) (Cons 2 (Cons 3 Nil))",
            "y = let z = 1 in z + z"]

    def test_all_as_told_of_its_rows(self):
        one = made(self.TEXT)
        self.assertIsNone(one.fault())
        self.assertEqual(one.kinds(), kinds(self.TEXT))
        self.assertEqual(one.core(), core(self.TEXT))
        for address in ((1, 3, 1, 2, 0, 1), (3, 3, 0, 2, 0, 1)):
            self.assertEqual(one.kind_at(address), kind_at(self.TEXT, address))
            self.assertEqual(one.kind_at(address=address), kind_at(self.TEXT, address))
        for address in (None, (), (9,), (0,)):
            self.assertEqual(refusal(self, NoAddress, one.kind_at, address).address, address)

    def test_asks_by_each_way_turned_and_not(self):
        program = core(self.TEXT)
        for turned in (False, True):
            told = all_turned(program)[0] if turned else program
            for x in ("x", "y", "map"):
                for bounds in ({}, {"depth": 0}, {"depth": 1, "most": 7}):
                    one = made(self.TEXT)
                    self.assertEqual(one.ask(x, way="name", turned=turned, **bounds), by_name(told, x, **bounds))
                    self.assertEqual(one.ask(x, way="shared", turned=turned, **bounds), shared(told, x, **bounds))
                    self.assertEqual(one.ask(x, way="rows", turned=turned, **bounds), by_rows(rows_of(told), x, **bounds))
                    self.assertEqual(one.ask(name=x, turned=turned, **bounds), shared(told, x, **bounds))

    def test_new_each_time(self):
        one = made(self.TEXT)
        core_told = one.core()
        core_told[0].clear()
        core_told[1].clear()
        core_told[2].clear()
        self.assertEqual(one.core(), core(self.TEXT))
        one.kinds().clear()
        self.assertEqual(one.kinds(), kinds(self.TEXT))
        one.settled().clear()
        one.settled()[0].clear()
        self.assertEqual(one.settled(), [["y"]])
        answer, costs = one.ask("x")
        answer[2].clear()
        costs.clear()
        self.assertEqual(one.ask("x"), shared(core(self.TEXT), "x"))
        one.costs().clear()
        self.assertNotEqual(one.costs(), [])
        broken = made(["f ="])
        broken.fault()[2].clear()
        self.assertEqual(broken.fault(), refused(["f ="]))
        refusal(self, Broken, broken.kinds).wrong[2].clear()
        self.assertEqual(refusal(self, Broken, broken.core).wrong, refused(["f ="]))

    def test_faults(self):
        for rows in (["?"], ["f ="], ["f = 1", "g = 1", "f = 2"], ["f 1 = 1", "f = 1"], ["f = g"], ["f (True 1) = 1"], ["f = 1 2"], ["f x = x x"]):
            one = made(rows)
            wanted = refused(rows)
            self.assertEqual(one.fault(), wanted)
            for function, told in [(one.kinds, ()), (one.kind_at, (None,)), (one.core, ()), (one.ask, ("nowhere",)), (one.ask, (None,))]:
                self.assertEqual(refusal(self, Broken, function, *told).wrong, wanted)
            with self.assertRaises(Broken):
                one.ask("f", depth=-1)
        self.assertEqual(made(["f = 1", "", "f = 2"]).fault(), None)
        self.assertEqual(made(["f = 1", "g = 2", "f = 2"]).fault(), ("Twice", (3, 1), (1, 1)))
        self.assertEqual(made(["f = 1 2"]).fault(), ("Clash", (1, 7), "Num", "Num -> a"))

    def test_asks_refused(self):
        one = made(self.TEXT)
        for x in ("nowhere", None, 1, ("x",), ["x"]):
            self.assertEqual(refusal(self, NoName, one.ask, x).name, x)
        for bounds in ({"depth": -1}, {"depth": 101}, {"depth": True}, {"most": 0}, {"most": 10 ** 6 + 1}):
            for way in ("name", "shared", "rows"):
                with self.assertRaises(NoCount):
                    one.ask("x", way=way, **bounds)
                with self.assertRaises(NoName):
                    one.ask("nowhere", way=way, **bounds)
        self.assertEqual(one.costs(), [])

    def test_its_form(self):
        self.assertEqual(str(inspect.signature(Workshop)), "()")
        for word, signature in [("put", "(self, at, row)"), ("cut", "(self, at)"), ("change", "(self, at, row)"), ("back", "(self)"),
                                ("rows", "(self)"), ("settled", "(self)"), ("costs", "(self)"), ("fault", "(self)"), ("kinds", "(self)"),
                                ("kind_at", "(self, address)"), ("core", "(self)"),
                                ("ask", "(self, name, *, depth=20, most=20000, way='shared', turned=False)")]:
            self.assertEqual(str(inspect.signature(vars(Workshop)[word])), signature)
        self.assertEqual(Workshop.__module__, workshop_file.__name__)


class Costs(unittest.TestCase):

    def test_sums_of_all_asks(self):
        rows = ["f n = if n < 1 then 0 else n + f (n - 1)", "x = f 3", "y = x + x", "z = case 1 of 2 -> 3"]
        one, program = made(rows), core(rows)
        sums = {}
        for x, bounds in [("x", {}), ("y", {"way": "name"}), ("z", {}), ("y", {"way": "rows", "most": 5}), ("x", {"turned": True})]:
            _, costs = one.ask(x, **bounds)
            for row, counts in costs_by_rows(program, costs).items():
                sums[row] = tuple(a + b for a, b in zip(sums.get(row, (0, 0, 0)), counts))
            self.assertEqual(one.costs(), [(row, *sums[row]) for row in sorted(sums)])

    def test_sums_go_along_with_their_rows(self):
        one = made(["a = 1 + 1", "b = a + 2", "c = 7"])
        one.ask("b")
        counts = {row: told for row, *told in one.costs()}
        self.assertEqual(sorted(counts), [1, 2])
        one.put(1, "-- a remark")
        self.assertEqual(one.costs(), [(2, *counts[1]), (3, *counts[2])])
        one.put(3, "d = 8")
        self.assertEqual(one.costs(), [(2, *counts[1]), (4, *counts[2])])
        one.cut(1)
        self.assertEqual(one.costs(), [(1, *counts[1]), (3, *counts[2])])
        one.ask("a")
        self.assertEqual(one.costs(), [(1, counts[1][0] + 3, 0, 0), (3, *counts[2])])
        one.cut(1)
        self.assertEqual(one.costs(), [(2, *counts[2])])

    def test_sums_go_where_a_row_is_changed(self):
        one = made(["a = 1 + 1", "b = a + 2"])
        one.ask("b")
        ahead = one.costs()
        one.change(1, "a = 1 + 1")
        self.assertEqual(one.costs(), ahead[1:])
        one.ask("a")
        self.assertEqual(one.costs(), [(1, 3, 0, 0), ahead[1]])
        one.change(2, "b = a + 3")
        self.assertEqual(one.costs(), [(1, 3, 0, 0)])

    def test_broken_texts_keep_sums(self):
        one = made(["a = 1 + 1", "b = a + 2"])
        one.ask("b")
        ahead = one.costs()
        one.put(1, "?")
        self.assertEqual(one.costs(), [(row + 1, *counts) for row, *counts in ahead])
        refusal(self, Broken, one.ask, "b")
        self.assertEqual(one.costs(), [(row + 1, *counts) for row, *counts in ahead])

    def test_back_behind_asks(self):
        one = made(["a = 1 + 1", "b = a + 2"])
        one.ask("a")
        ahead = one.costs()
        one.put(1, "-- remark")
        one.ask("b")
        one.cut(1)
        one.ask("b")
        one.back()
        one.back()
        self.assertEqual(one.costs(), ahead)
        one.ask("a")
        self.assertEqual(one.costs(), [(1, 6, 0, 0)])
        one.back()
        self.assertEqual(one.costs(), [])
        self.assertEqual(one.rows(), ["a = 1 + 1"])

    def test_a_cut_row_that_comes_back(self):
        one = made(["a = 1 + 1"])
        one.ask("a")
        one.cut(1)
        one.put(1, "a = 1 + 1")
        self.assertEqual(one.costs(), [])
        one.back()
        one.back()
        self.assertEqual(one.costs(), [(1, 3, 0, 0)])


class Settled(unittest.TestCase):

    TEXT = [LIST, "id x = x", "map f Nil = Nil", "map f (Cons x r) = Cons (f x) (map f r)", "even 0 = True", "even n = odd (n - 1)",
            "odd 0 = False", "odd n = even (n - 1)", "main = map even (Cons (id 1) Nil)", "far = case main of", "  Cons y _ -> y", "  Nil -> False"]

    def edited(self, deed, *told, text=None):
        """Tells what is settled behind a deed on the text, that is whole ahead of it."""
        one = made(self.TEXT if text is None else text)
        ahead = one.rows()
        getattr(one, deed)(*told)
        if one.fault() is None:
            self.assertEqual(one.settled(), looked_anew(one.rows(), ahead))
        return one.settled()

    def test_the_first_whole_text(self):
        one = Workshop()
        one.put(1, "a = b")
        self.assertEqual(one.settled(), [])
        one.put(2, "b = 1")
        self.assertEqual(one.settled(), [["b"], ["a"]])
        one = made(["g x = f x", "f x = g x", "h = f"])
        self.assertEqual(one.settled(), [["h"]])
        one = Workshop()
        for row in ("h = f", "g x = f x"):
            one.put(1, row)
            self.assertEqual(one.settled(), [])
        one.put(2, "f x = g x")
        self.assertEqual(one.settled(), [["f", "g"], ["h"]])

    def test_rows_that_change_nothing(self):
        for at in range(1, len(self.TEXT) + 2):
            self.assertEqual(self.edited("put", at, ""), [])
            self.assertEqual(self.edited("put", at, "    -- a remark"), [])
        self.assertEqual(self.edited("change", 2, "id   x =  x -- the same"), [])
        self.assertEqual(self.edited("change", 2, self.TEXT[1]), [])
        self.assertEqual(self.edited("put", 1, "data Other = Other"), [])
        self.assertEqual(self.edited("put", 1, "data A = A | B A"), [])

    def test_a_def_that_changes(self):
        self.assertEqual(self.edited("change", 2, "id y = y"), [["id"]])
        self.assertEqual(self.edited("change", 9, "main = map odd (Cons (id 1) Nil)"), [["main"]])
        self.assertEqual(self.edited("put", 4, "map f (Cons x Nil) = Nil"), [["map"]])
        self.assertEqual(self.edited("change", 6, "even m = odd (m - 1)"), [["even", "odd"]])
        self.assertEqual(self.edited("put", 13, "more = 1"), [["more"]])
        self.assertEqual(self.edited("put", 1, "more = id"), [["more"]])
        self.assertEqual(self.edited("cut", 12), [["far"]])

    def test_a_kind_that_changes(self):
        self.assertEqual(self.edited("change", 2, "id x = x + 1"), [["id"], ["main"]])
        self.assertEqual(self.edited("change", 9, "main = map id (Cons (id 1) Nil)"), [])
        self.assertEqual(self.edited("put", 5, "map f r = map f r"), [["map"]])
        text = ["a = 1", "b = a", "c = Box b", "data Box x = Box x", "d = c"]
        self.assertEqual(self.edited("change", 1, "a = True", text=text), [["a"], ["b"], ["c"], ["d"]])
        self.assertEqual(self.edited("change", 1, "a = 2", text=text), [["a"]])

    def test_just_the_groups_that_use_it(self):
        text = ["a = 1", "b x = x", "c = b a", "d = b", "e = d 1"]
        self.assertEqual(self.edited("change", 2, "b x = x + 1", text=text), [["b"], ["c"], ["d"], ["e"]])
        self.assertEqual(self.edited("change", 1, "a = True", text=text), [["a"], ["c"]])

    def test_makers(self):
        text = ["data T = A | B Num", "f A = 1", "g = B 1", "h = A", "i (B n) = n", "j = 1"]
        self.assertEqual(self.edited("change", 1, "data T = A | B Num | C", text=text), [])
        self.assertEqual(self.edited("change", 1, "data T a = A | B Num", text=text), [["f"], ["g"], ["h"], ["i"]])
        self.assertEqual(self.edited("change", 1, "data U = A | B Num", text=text), [["f"], ["g"], ["h"], ["i"]])
        self.assertEqual(self.edited("change", 1, "data T = B Num | A", text=text), [])
        text = ["data T a = A | B a Num", "g = A", "h = B", "i = True"]
        self.assertEqual(self.edited("change", 1, "data T b = A | B b Num", text=text), [])
        self.assertEqual(self.edited("change", 1, "data T b = A | B Num b", text=text), [["h"]])

    def test_a_maker_that_comes_and_goes(self):
        one = made(["data T = A | B", "f = A", "g = 1"])
        one.change(1, "data T = B")
        self.assertEqual((one.settled(), one.fault()[0]), ([], "Unknown"))
        one.change(1, "data T = A | C")
        self.assertEqual(one.settled(), [])
        one.change(1, "data T = C")
        one.change(1, "data T x = A | C")
        self.assertEqual(one.settled(), [["f"]])

    def test_a_def_that_moves(self):
        text = ["a = 1", "b = a", "c = 2"]
        one = made(text)
        one.put(1, "c = 2")
        self.assertEqual((one.fault()[0], one.settled()), ("Twice", []))
        one.cut(4)
        self.assertEqual((one.rows(), one.settled()), (["c = 2", "a = 1", "b = a"], []))
        # Within its group, too.
        one = made(self.TEXT)
        one.put(1, "odd n = even (n - 1)")
        one.put(1, "odd 0 = False")
        one.cut(9)
        one.cut(9)
        self.assertEqual((one.fault(), one.settled()), (None, []))

    def test_marks_ahead_and_behind(self):
        # A def behind which a block ends, and which is then the last one.
        text = ["f = case 1 of", "  1 -> 2", "g = 3"]
        self.assertEqual(self.edited("cut", 3, text=text), [])
        # An empty block, an item where none was.
        text = ["f = let a = 1", "        b = 2", "  in a"]
        self.assertEqual(self.edited("change", 2, "     b = 2", text=text), [])
        text = ["f x = case x of", "    1 -> 2", "    2 -> 3"]
        self.assertEqual(self.edited("change", 3, "     2 -> 3", text=text), [])
        text = ["f = let a = 1", "   in case a of", "      1 -> 2", "      2 -> 3", "g = 1"]
        self.assertEqual(self.edited("cut", 4, text=text), [["f"]])

    def test_groups_that_join_and_part(self):
        text = ["a x = 1", "b x = a x", "c = b 1"]
        self.assertEqual(self.edited("change", 1, "a x = b x", text=text), [["a", "b"], ["c"]])
        text = ["a x = b x", "b x = a x", "c = b 1"]
        self.assertEqual(self.edited("change", 1, "a x = 1", text=text), [["a"], ["b"], ["c"]])

    def test_broken_texts_between(self):
        one = made(["a = 1", "b = a", "c = 2"])
        one.change(1, "a = (")
        self.assertEqual(one.settled(), [])
        one.change(3, "c = 3")
        self.assertEqual(one.settled(), [])
        one.put(4, "d = b")
        one.change(1, "a = 1")
        self.assertEqual(one.settled(), [["c"], ["d"]])
        one.put(1, "")
        self.assertEqual(one.settled(), [])

    def test_back(self):
        one = made(["a = 1", "b = a"])
        self.assertEqual(one.settled(), [["b"]])
        one.change(1, "a = True")
        self.assertEqual(one.settled(), [["a"], ["b"]])
        one.change(1, "a = ")
        one.back()
        self.assertEqual(one.settled(), [["a"], ["b"]])
        one.back()
        self.assertEqual(one.settled(), [["b"]])
        # The last whole text is as ahead of the deed, too.
        one.change(1, "a = ")
        one.change(1, "a = 2")
        self.assertEqual(one.settled(), [["a"]])
        one.back()
        self.assertEqual(one.settled(), [])
        one.change(1, "a = 1")
        self.assertEqual(one.settled(), [])
        for _ in range(4):
            one.back()
        self.assertEqual((one.rows(), one.settled()), ([], []))
        refusal(self, NoBack, one.back)
        one.put(1, "a = 1")
        self.assertEqual(one.settled(), [["a"]])


class Drawn(unittest.TestCase):

    def deed(self, chance, one, pool):
        """Does a deed that is drawn; tells whether it was one that can be taken back."""
        rows = one.rows()
        roll = chance.random()
        if roll < 0.35 or not rows:
            one.put(chance.randint(1, len(rows) + 1), chance.choice(pool))
        elif roll < 0.45:
            one.change(chance.randint(1, len(rows)), chance.choice(pool))
        elif roll < 0.65:
            # A row that is laid out or told a little otherwise.
            at = chance.randint(1, len(rows))
            old, new = chance.choice([("1", "2"), ("2", "12"), ("True", "False"), (" = ", "  =  "), ("+", "*"), ("Num", "Truth"), ("x", "y")])
            one.change(at, rows[at - 1].replace(old, new)[:100])
        elif roll < 0.8:
            one.cut(chance.randint(1, len(rows)))
        else:
            return False
        return True

    def snapshot(self, one):
        return (one.rows(), one.costs(), one.settled(), one.fault())

    def check(self, one):
        """What a workshop tells is what one made anew of its rows tells."""
        rows = one.rows()
        wanted = refused(rows)
        self.assertEqual(one.fault(), wanted)
        if wanted is not None:
            self.assertEqual(refusal(self, Broken, one.kinds).wrong, wanted)
            self.assertEqual(one.settled(), [])
            return False
        self.assertEqual(one.kinds(), kinds(rows))
        self.assertEqual(one.core(), core(rows))
        return True

    def session(self, seed, pool, begin, many):
        chance = random.Random(seed)
        one = made(begin)
        # Of each deed what was there ahead of it, and the last whole text then.
        pile, last = [], None
        rows = []
        for row in begin:
            pile.append((([*rows], [], None, refused(rows)), last))
            last = [*rows] if refused(rows) is None else last
            rows.append(row)
        for _ in range(many):
            ahead = (self.snapshot(one), last)
            if chance.random() < 0.15 and pile:
                one.back()
                told, last = pile.pop()
                for was, now in zip(told, self.snapshot(one)):
                    if was is not None:
                        self.assertEqual(now, was)
                continue
            whole = one.fault() is None
            rows = one.rows()
            if not self.deed(chance, one, pool):
                continue
            pile.append(ahead)
            last = rows if whole else last
            if self.check(one):
                self.assertEqual(one.settled(), looked_anew(one.rows(), last))
                self.seen += 1
                tops = sorted(one.kinds())
                for x in chance.sample(tops, min(2, len(tops))):
                    before = {row: counts for row, *counts in one.costs()}
                    way = chance.choice(["name", "shared", "rows"])
                    answer, costs = one.ask(x, depth=3, most=200, way=way)
                    program = core(one.rows())
                    machine = by_name if way == "name" else shared
                    self.assertEqual((answer, costs), machine(program, x, depth=3, most=200))
                    for row, counts in costs_by_rows(program, costs).items():
                        before[row] = [a + b for a, b in zip(before.get(row, (0, 0, 0)), counts)]
                    self.assertEqual(one.costs(), [(row, *before[row]) for row in sorted(before)])

    POOL = [LIST, "data List a = Nil | Cons (List a) a", "a = 1", "a = True", "a = b", "b = a", "b x = x", "b x = c x", "c x = b x", "c = b",
            "d = Cons a Nil", "d = Nil", "e (Cons x _) = x", "e Nil = a", "", "-- remark", "f = let x = a", "      in x", "f = c 1", "?", "g = (",
            "data T = A | B", "data T = A", "h A = 1", "h B = 2", "h x = 3", "  + 1"]

    def test_small_rows(self):
        self.seen = 0
        for seed in range(80):
            self.session(seed, self.POOL, [], 30)
        for seed in range(120):
            self.session(seed, self.POOL, [LIST, "a = 1", "b = a", "c x = x", "d = Cons a Nil"], 20)
        self.assertGreater(self.seen, 300)

    def test_all_the_way_back_and_forth_again(self):
        for seed in range(25):
            chance = random.Random(seed)
            one = made([LIST, "a = 1", "b = a", "c x = x", "d = Cons a Nil"])
            told = []
            for _ in range(30):
                before = self.snapshot(one)
                if self.deed(chance, one, self.POOL):
                    told.append(before)
                    if one.fault() is None and chance.random() < 0.5:
                        for x in sorted(one.kinds())[:2]:
                            one.ask(x, most=50)
            for before in told[:3:-1]:
                one.back()
                self.assertEqual(self.snapshot(one), before)
            rows = one.rows()
            one.put(1, "")
            if refused(rows) is None:
                self.assertEqual(one.settled(), [])
            one.back()
            self.assertEqual(one.rows(), rows)
            for before in told[3::-1]:
                one.back()
                self.assertEqual(self.snapshot(one), before)

    def test_grown_texts(self):
        self.seen = 0
        for seed in range(60):
            chance = random.Random(seed)
            text = printed(Grower(chance, 2).tree(3))
            if max(map(len, text)) > 100 or len(text) > 100:
                continue
            pool = ["", "", "", "-- remark", "zz = 1", "zz = True", "yy = zz", *chance.sample(text, 2)]
            self.session(seed, pool, text, 15)
        self.assertGreater(self.seen, 60)

    def test_each_address(self):
        text = [LIST, "f (Cons x r) = let g y = x in g r", "f Nil = f Nil"]
        one, seen = made(text), 0
        pile = [((), tree_of(text))]
        while pile:
            path, thing = pile.pop()
            try:
                wanted = kind_at(text, path)
                self.assertEqual(one.kind_at(path), wanted)
                seen += 1
            except NoAddress:
                refusal(self, NoAddress, one.kind_at, path)
            if isinstance(thing, tuple):
                pile.extend(((*path, number), part) for number, part in enumerate(thing))
        self.assertEqual(seen, 8)


class Long(unittest.TestCase):

    def test_many_deeds_and_all_of_them_back(self):
        one = made(["a = 1"])
        for number in range(1500):
            one.change(1, f"a = {number}")
        self.assertEqual(one.settled(), [["a"]])
        for _ in range(1500):
            one.back()
        self.assertEqual(one.rows(), ["a = 1"])

    def test_many_broken_texts(self):
        one = made(["a = 1"])
        for number in range(300):
            one.change(1, f"a = {number} (")
        one.change(1, "a = 1")
        self.assertEqual(one.settled(), [])
        for _ in range(301):
            one.back()
        self.assertEqual(one.settled(), [["a"]])


if __name__ == "__main__":
    unittest.main()
