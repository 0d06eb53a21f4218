"""Drawn programs and cores of texts, turned in all ways: each turn beside the rules written once more, and what stays
behind each turn by all three machines (24, 26)."""

import random
import unittest

from slumberway.cores import program_wrong
from slumberway.machines import by_name, shared
from slumberway.making import core
from slumberway.printer import printed
from slumberway.rows import by_rows, rows_of
from slumberway.turns import all_turned, rows_wrong, turn_wrong, turned
from tests.drawn import drawn
from tests.grown import Grower
from tests.second_turns import RULES, Turning, all_second

BOUNDS = [(3, 400), (0, 60)]


def some(seed):
    """A program: three drawn for each that a text was made to."""
    chance = random.Random(seed)
    return core(printed(Grower(chance, 3).tree(2))) if seed % 4 == 0 else drawn(chance)


class EachTurn(unittest.TestCase):

    def each_turn(self, one):
        told = Turning(one)
        for address, part in told.parts.items():
            for rule, (_, size) in RULES.items():
                many = len(part[2]) + 1 if part[0] == "let" else 1
                for turn in [(rule, address)] if size == 2 else [(rule, address, k) for k in range(many)]:
                    wanted, _ = told.wrong(turn)
                    self.assertEqual(turn_wrong(one, turn), wanted)
                    self.seen[(rule, *(wanted or ("done",)))] = self.seen.get((rule, *(wanted or ("done",))), 0) + 1
                    if wanted is None:
                        self.assertEqual(turned(one, turn), told.turned(turn))

    def test_beside_the_rules_once_more(self):
        self.seen = {}
        for seed in range(70):
            one = some(seed)
            before = repr(one)
            self.each_turn(one)
            self.assertEqual(all_turned(one), all_second(one))
            self.assertEqual(repr(one), before)
        for rule in RULES:
            self.assertIn((rule, "done"), self.seen)
        for key in [("drop", "why", "named"), ("known", "why", "unknown"), ("put", "why", "unknown"), ("put", "why", "count"),
                    ("past", "why", "group"), ("past", "why", "case"), ("past", "why", "named"), ("once", "why", "head"),
                    ("once", "why", "named"), ("early", "why", "group"), ("early", "why", "head"), ("early", "why", "first")]:
            self.assertIn(key, self.seen)


class WhatStays(unittest.TestCase):

    def runs(self, one):
        rows = rows_of(one)
        told = {}
        for x, _ in one[2]:
            for depth, most in BOUNDS:
                once = shared(one, x, depth=depth, most=most)
                self.assertEqual(by_rows(rows, x, depth=depth, most=most), once)
                told[x, depth, most] = (by_name(one, x, depth=depth, most=most), once)
        return told

    def stays(self, ahead, behind):
        for key, (by, once) in ahead.items():
            if by[0] == ("long",) or by[0][:2] == ("fault", "kind"):
                continue
            self.assertEqual([answer for answer, _ in behind[key]], [by[0]] * 2)
            counts = {p: counts for p, *counts in once[1]}
            for p, *fews in behind[key][1][1]:
                self.assertTrue(p in counts and all(few <= many for few, many in zip(fews, counts[p])))
            self.kept += 1

    def test_behind_each_turn(self):
        self.kept = 0
        for seed in range(140):
            one = some(seed)
            told, turns = all_turned(one)
            self.assertIsNone(rows_wrong(one, turns))
            ahead = self.runs(one)
            for turn in turns:
                self.assertIsNone(turn_wrong(one, turn))
                one = turned(one, turn)
                self.assertIsNone(program_wrong(one))
                behind = self.runs(one)
                self.stays(ahead, behind)
                ahead = behind
            self.assertEqual(one, told)
        self.assertGreater(self.kept, 2000)

    def test_turns_in_any_order(self):
        """Rows of turns that may be done, drawn: not just the first each time."""
        self.kept = 0
        for seed in range(60):
            chance = random.Random(seed)
            one = some(seed)
            begin, turns = one, []
            ahead = self.runs(one)
            for _ in range(6):
                told = Turning(one)
                found = [(rule, address) if size == 2 else (rule, address, k) for address, part in told.parts.items()
                         for rule, (word, size) in RULES.items() if part[0] == word
                         for k in range(len(part[2]) if size == 3 else 1)]
                found = [turn for turn in found if told.wrong(turn)[0] is None]
                if not found or len(told.parts) > 300:
                    break
                turns.append(chance.choice(found))
                one = turned(one, turns[-1])
                behind = self.runs(one)
                self.stays(ahead, behind)
                ahead = behind
            self.assertIsNone(rows_wrong(begin, turns))
            # Exchanged, twice, or too many: the first that may not be done is told by going by them.
            for other in (turns[::-1], [*turns, *turns], chance.sample(turns, len(turns))):
                self.assertEqual(rows_wrong(begin, other), self.first_wrong(begin, other))
        self.assertGreater(self.kept, 400)

    def first_wrong(self, one, turns):
        for number, turn in enumerate(turns):
            if turn_wrong(one, turn) is not None:
                return number
            one = turned(one, turn)
        return None


if __name__ == "__main__":
    unittest.main()
