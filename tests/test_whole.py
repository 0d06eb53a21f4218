"""The whole: from a text to its answers in another layout, with defs in another order, with names exchanged, behind all
turnings, by all three machines, and in a workshop (1 to 4)."""

import random
import unittest

from slumberway.corekinds import core_kinds, kinds_kept
from slumberway.errors import Clash, Endless
from slumberway.kinds import chain, chain_judged, demands, kinds
from slumberway.lexemes import lexemes
from slumberway.looks import asks_of, led_costs, profile
from slumberway.machines import by_name, shared
from slumberway.making import core
from slumberway.printer import led, printed
from slumberway.reader import tree_of
from slumberway.rows import by_rows, read_rows, rows_of, rows_text
from slumberway.turns import all_turned, rows_wrong, turned
from slumberway.workshop import Workshop
from tests.grown import Grower, bent
from tests.helper import refusal
from tests.readings import Long, Plain

TEXT = [
    "data List a = Nil | Cons a (List a)", "data Tree a = Leaf | Node (Tree a) a (Tree a)",
    "put x Leaf = Node Leaf x Leaf",
    "put x (Node l y r) | x < y = Node (put x l) y r",
    "                   | True  = Node l y (put x r)",
    "all Nil t = t", "all (Cons x r) t = all r (put x t)",
    "flat Leaf rest = rest", "flat (Node l x r) rest = flat l (Cons x (flat r rest))",
    "list = Cons 5 (Cons 2 (Cons 9 (Cons 1 Nil)))",
    "main = flat (all list Leaf) Nil",
    "first (Cons x _) = x",
    "least = first main", "none = first (flat Leaf Nil)",
    "add x = let y = x + 1", "            z = y * y", "        in z + y",
    "sum = add 3 - add (least)", "big = let n = 1000000000000000000000000000000 in n * n * n",
]
ORDERS = [0, 1, 2]


def answered(program, depth=6, most=3000):
    """Tells of all tops what all three machines tell."""
    rows = read_rows(rows_text(rows_of(program)))
    told = {}
    for x, _ in program[2]:
        once = shared(program, x, depth=depth, most=most)
        by = by_name(program, x, depth=depth, most=most)
        assert by_rows(rows, x, depth=depth, most=most) == once
        told[x] = (by, once)
    return told


class Whole(unittest.TestCase):

    def at_places(self, program, answer):
        """Tells an answer with places in the stead of their numbers, in ways, too."""
        places = program[0]
        if answer[0] == "told":
            return (*answer[:2], [(what, places[p]) for what, p in answer[2]])
        if answer[0] == "fault":
            return (*answer[:2], places[answer[2]], [(places[p], None if q is None else places[q]) for p, q in answer[3]])
        return answer

    def plain(self, text):
        """Each top is answered as by the plain reading."""
        program, tree = core(text), tree_of(text)
        for x, (by, once) in answered(program).items():
            if by[0] == ("long",):
                continue
            self.assertEqual(by[0], once[0])
            try:
                wanted = Plain(tree, 3000).answer(x, 6)
            except Long:
                continue
            told = self.at_places(program, by[0])
            if wanted[0] == "told":
                self.assertEqual((told[1], [(str(what), place) for what, place in told[2]]), wanted[1:])
            else:
                self.assertEqual(told[1:3], wanted[1:])

    def turned(self, text):
        """Behind all turns, the told answers stay, kinds too, and costs are no more."""
        program = core(text)
        wanted = kinds(text)
        told, turns = all_turned(program)
        self.assertIsNone(rows_wrong(program, turns))
        ahead = answered(program)
        for number, turn in enumerate([*turns, None]):
            if number % 5 == 0 or turn is None:
                self.assertTrue(kinds_kept(text, program))
                self.assertEqual(list(core_kinds(text, program)), list(wanted))
                behind = answered(program)
                for x, (by, once) in ahead.items():
                    if by[0] != ("long",):
                        self.assertEqual([behind[x][0][0], behind[x][1][0]], [by[0]] * 2)
                        counts = {p: counts for p, *counts in once[1]}
                        for p, *fews in behind[x][1][1]:
                            self.assertTrue(all(few <= many for few, many in zip(fews, counts[p])))
            if turn is not None:
                program = turned(program, turn)
        self.assertEqual(program, told)

    def no_kind_faults(self, text):
        """No machine meets a part that its kind bars."""
        for program in (core(text), all_turned(core(text))[0]):
            for by, once in answered(program, most=600).values():
                self.assertNotEqual(by[0][:2], ("fault", "kind"))
                self.assertNotEqual(once[0][:2], ("fault", "kind"))

    def laid_out_otherwise(self, text, other):
        """Another text with the same lexemes and marks has the same kinds, answers and costs, but for places."""
        table = led(text, other)
        self.assertIsNotNone(table)
        self.assertEqual(kinds(text), kinds(other))
        one, two = core(text), core(other)
        self.assertEqual(one[1:], two[1:])
        self.assertEqual([table[place] for place in one[0]], two[0])
        others = answered(two)
        for x, told in answered(one).items():
            self.assertEqual(told, others[x])
            costs = told[1][1]
            self.assertEqual(led_costs(text, costs, table), profile(two, others[x][1][1], "place"))
        self.assertEqual(all_turned(one)[1], all_turned(two)[1])

    def in_a_workshop(self, text):
        shop = Workshop()
        for number, row in enumerate(text, start=1):
            shop.put(number, row)
        self.assertEqual((shop.kinds(), shop.core()), (kinds(text), core(text)))
        told, _ = all_turned(core(text))
        for x in kinds(text):
            self.assertEqual(shop.ask(x, depth=6, most=3000), shared(core(text), x, depth=6, most=3000))
            self.assertEqual(shop.ask(x, turned=True, way="name", most=3000), by_name(told, x, most=3000))


class ByHand(Whole):

    def test_answers(self):
        self.plain(TEXT)
        program = core(TEXT)
        told = answered(program)
        self.assertEqual(told["main"][1][0][1], "Cons(1, Cons(2, Cons(5, Cons(9, Nil))))")
        self.assertEqual(told["least"][1][0][1], "1")
        self.assertEqual(told["sum"][1][0][1], str(4 * 4 + 4 - (2 * 2 + 2)))
        self.assertEqual(self.at_places(program, told["none"][1][0])[:3], ("fault", "none", (12, 1)))
        self.assertEqual(self.at_places(program, told["big"][1][0])[:3], ("fault", "great", (19, 52)))

    def test_each_piece_at_the_place_where_it_was_made(self):
        program = core(TEXT)
        answer, _ = shared(program, "main")
        words = {place: word for place, _, word in lexemes(TEXT)}
        self.assertEqual([str(what) for what, _ in answer[2]], [words[program[0][p]] for _, p in answer[2]])

    def test_turned(self):
        self.turned(TEXT)
        self.no_kind_faults(TEXT)

    def test_laid_out_otherwise(self):
        other = []
        for row in TEXT:
            other.extend(["-- remark", row.replace(" = ", "  =   ") + " -- more" if "let" not in row and "|" not in row else row, ""])
        self.laid_out_otherwise(TEXT, other)

    def test_in_a_workshop(self):
        self.in_a_workshop(TEXT)

    def test_defs_in_another_order(self):
        blocks = [TEXT[0:1], TEXT[1:2], TEXT[2:5], TEXT[5:7], TEXT[7:9], TEXT[9:10], TEXT[10:11], TEXT[11:12], TEXT[12:13], TEXT[13:14],
                  TEXT[14:17], TEXT[17:18], TEXT[18:19]]
        wanted = kinds(TEXT)
        answers = {x: once[0][1] for x, (_, once) in answered(core(TEXT)).items()}
        for seed in ORDERS:
            random.Random(seed).shuffle(blocks)
            text = [row for block in blocks for row in block]
            self.assertEqual(kinds(text), wanted)
            program = core(text)
            self.assertEqual({x: once[0][1] for x, (_, once) in answered(program).items()}, answers)
            for x, e in program[2]:
                self.assertEqual(len(asks_of(program, x)), len(asks_of(core(TEXT), x)))
            self.turned(text)

    def test_names_exchanged(self):
        def exchanged(row):
            for old, new in [("flat", "smooth"), ("list", "given"), ("put", "set"), ("x", "q"), ("rest", "tail")]:
                row = " ".join(new if word == old else word for word in
                               row.replace("(", "( ").replace(")", " )").split(" ")).replace("( ", "(").replace(" )", ")")
            return row
        text = [exchanged(row) for row in TEXT]
        self.assertNotEqual(text, TEXT)
        self.assertEqual(sorted(kinds(text).values()), sorted(kinds(TEXT).values()))
        mine = {x: once[0][:2] for x, (_, once) in answered(core(TEXT)).items()}
        others = {x: once[0][:2] for x, (_, once) in answered(core(text)).items()}
        self.assertEqual(mine["main"], others["main"])
        self.assertEqual(mine["sum"], others["sum"])
        costs = [sorted(counts for _, *counts in shared(core(rows), "main")[1]) for rows in (TEXT, text)]
        self.assertEqual(*costs)


class AtRandom(Whole):

    def test_texts(self):
        for seed in range(40):
            text = printed(Grower(random.Random(seed), 3).tree(3))
            with self.subTest(seed=seed):
                self.plain(text)
                self.turned(text)
                self.no_kind_faults(text)
                other = [row for line in text for row in ("", line)]
                self.laid_out_otherwise(text, other)

    def test_workshops(self):
        for seed in range(30):
            text = printed(Grower(random.Random(seed), 3).tree(2))
            if max(map(len, text)) <= 100 and len(text) <= 120:
                self.in_a_workshop(text)

    def test_texts_that_are_refused_for_their_kinds(self):
        """Such a text has a row of demands that can't go together, none of them to spare; a text that isn't has none."""
        seen = 0
        for seed in range(150):
            chance = random.Random(seed)
            text = printed(bent(chance, Grower(chance, 3).tree(2)))
            try:
                kinds(text)
            except (Clash, Endless) as error:
                numbers = chain(text)
                self.assertTrue(chain_judged(text, numbers))
                self.assertFalse(chain_judged(text, numbers[:-1]))
                refusal(self, error.__class__, core, text)
                shop = Workshop()
                for number, row in enumerate(text[:120], start=1):
                    shop.put(number, row[:100])
                if shop.rows() == text:
                    self.assertEqual(shop.fault(), (error.__class__.__name__, error.place, error.one, error.other))
                seen += 1
            except ValueError:
                continue
            else:
                self.assertIsNone(chain(text))
                for name in kinds(text):
                    self.assertFalse(chain_judged(text, list(range(len(demands(text, name))))))
        self.assertGreater(seen, 20)


if __name__ == "__main__":
    unittest.main()
