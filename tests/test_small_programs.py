"""Programs of cores, some thousand of them, whole and bent, each of their addresses, beside a second reading (16 to 18)."""

import random
import unittest

from slumberway.cores import addresses, named, part_at, program_wrong, with_part
from slumberway.coretexts import core_text, read_core
from slumberway.errors import NoAddress, NoProgram, NoText
from slumberway.making import core
from slumberway.printer import printed
from slumberway.renames import anew
from tests.drawn import drawn
from tests.grown import Grower
from tests.helper import refusal
from tests.second_cores import Cores, free, put

NAMES = ["a", "t0", "x.1", "b2", "q", "q.1", "A", "a.0", "a.01", "a_", "", "a" * 100, "a" * 101, "a" * 100 + ".7", "a.1.2", "1a", "aB",
         "\u00e9", "a\u0661", "a.\u0661", None, 1, ("a",), True, "Cons", "Nil", "Triple", "num", "name", "let", "plus"]
NUMBERS = [0, 1, 2, 11, 12, -1, True, False, None, "1", 1.0, 10 ** 60, 10 ** 60 - 1, (1,)]


def bent(chance, thing):
    """Tells a tuple with something else at some spot in it."""
    if not isinstance(thing, tuple) or not thing or chance.random() < 0.12:
        roll = chance.random()
        if isinstance(thing, tuple) and thing and roll < 0.4:
            return chance.choice([list(thing), thing[:-1], (*thing, thing[-1]), (*thing[:-1], chance.choice(NAMES)), ()])
        return chance.choice(NAMES if isinstance(thing, str) or roll < 0.6 else NUMBERS)
    at = chance.randrange(len(thing))
    return (*thing[:at], bent(chance, thing[at]), *thing[at + 1:])


def bent_program(chance, one):
    places, data, tops = list(one[0]), dict(one[1]), list(one[2])
    roll = chance.random()
    if roll < 0.5:
        at = chance.randrange(len(tops))
        tops[at] = (tops[at][0], bent(chance, tops[at][1]))
    elif roll < 0.8:
        # Two parts exchanged: names bound twice, or not around.
        found = addresses(one)
        return with_part(one, chance.choice(found), part_at(one, chance.choice(found)))
    elif roll < 0.87:
        at = chance.randrange(len(tops))
        tops[at] = bent(chance, tops[at])
    elif roll < 0.94:
        at = chance.randrange(len(places))
        places[at] = bent(chance, places[at])
    else:
        data.pop(chance.choice(list(data)))
    return (places, data, tops)


class Small(unittest.TestCase):

    def whole(self, chance, one, cores):
        """Everything that is told of a program, at each of its addresses."""
        self.assertEqual(addresses(one), cores.found)
        for address in cores.found:
            part = part_at(one, address)
            self.assertEqual(part, cores.part_at(address))
            self.assertEqual(named(part), sorted(free(part)))
            self.assertEqual(anew(one, part), cores.anew(part))
            other = chance.choice([None, ("num", 0, 3), part, [1]])
            told = with_part(one, address, other)
            tops = [(x, put(e, address[1], other) if x == address[0] else e) for x, e in one[2]]
            self.assertEqual(told, (one[0], one[1], tops))
            self.assertTrue(told[0] is not one[0] and told[1] is not one[1] and told[2] is not one[2])
        for address in [*cores.found[-1:], *cores.found[:1]]:
            x, path = address
            for thing in ((x, (*path, 99)), (x, (*path, True)), (x, list(path)), ("nowhere", path), (x, path, 1), [x, path],
                          (x, (*path, -1)), (path, x), None):
                for function, more in ((part_at, ()), (with_part, (None,))):
                    self.assertEqual(refusal(self, NoAddress, function, one, thing, *more).address, thing)
        text = core_text(one)
        self.assertEqual(read_core(text), one)
        rows = text.split("\n")
        at = chance.randrange(len(rows))
        refusal(self, NoText, read_core, "\n".join(rows[:at] + rows[at + 1:]))

    def check(self, chance, one):
        before = repr(one)
        cores = Cores(one)
        self.assertEqual(program_wrong(one), cores.wrong, before)
        if cores.wrong is None:
            self.whole(chance, one, cores)
        else:
            for function, more in ((addresses, ()), (part_at, (None,)), (with_part, (("t0", ()), 1)), (anew, (("num", 0, 1),)),
                                   (core_text, ())):
                self.assertEqual(refusal(self, NoProgram, function, one, *more).wrong, cores.wrong)
        self.assertEqual(repr(one), before)
        return "right" if cores.wrong is None else cores.wrong[0]

    def test_drawn_programs_whole_and_bent(self):
        seen = []
        for seed in range(500):
            chance = random.Random(seed)
            one = drawn(chance)
            seen.append(self.check(chance, one))
            for _ in range(4):
                other = bent_program(chance, one)
                if chance.random() < 0.2 and program_wrong(other) is None:
                    other = bent_program(chance, other)
                seen.append(self.check(chance, other))
        for word, least in [("right", 800), ("part", 400), ("free", 100), ("twice", 100), ("maker", 40), ("places", 50), ("top", 50)]:
            self.assertGreater(seen.count(word), least, word)

    def test_cores_of_texts_whole_and_bent(self):
        for seed in range(60):
            chance = random.Random(seed)
            one = core(printed(Grower(chance, 3).tree(2)))
            self.assertEqual(self.check(chance, one), "right")
            for _ in range(3):
                self.check(chance, bent_program(chance, one))

    def test_many_parts_at_once(self):
        def wide(chance, many, depth, around):
            """A part of just so many parts."""
            if many == 1:
                return ("name", 0, chance.choice(around)) if chance.random() < 0.5 else ("num", 1, many)
            names[0] += 1
            x = f"a.{names[0]}"
            if many == 2 or many % 2 == 0:
                return ("fun", 1, (x,), wide(chance, many - 1, depth + 1, [*around, x]))
            half = (many - 1) // 2
            return ("let", 1, ((x, wide(chance, half, depth + 1, [*around, x])),), wide(chance, many - 1 - half, depth + 1, [*around, x]))
        for many in (3998, 3999, 4000):
            chance = random.Random(many)
            names = [0]
            one = ([(1, 1), (2, 2)], {}, [("t0", wide(chance, many, 0, ["t0"])), ("t1", ("num", 0, 1))])
            cores = Cores(one)
            self.assertEqual(program_wrong(one), cores.wrong)
            self.assertEqual(cores.wrong, None if many < 4000 else ("great",))
            if many == 3999:
                self.assertEqual(addresses(one), cores.found)
                self.assertEqual(read_core(core_text(one)), one)
                for address in chance.sample(cores.found, 20):
                    self.assertEqual(part_at(one, address), cores.part_at(address))
                e = one[2][0][1]
                self.assertEqual(named(e), sorted(free(e)))
                told = anew(one, e)
                self.assertIsNone(program_wrong((one[0], one[1], [("t0", told), ("t1", ("num", 0, 1))])))


if __name__ == "__main__":
    unittest.main()
