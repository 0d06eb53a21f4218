"""Some thousand small texts, told and refused: kinds, kind_at of each address, demands of each name, chain, chain_judged,
looked_at and core, each beside what the second ways to tell them tell (10 to 13, 15)."""

import random
import unittest

from slumberway.cores import program_wrong
from slumberway.errors import Clash, Endless, NoAddress, NoName, SlumberError, Twice, Unknown
from slumberway.kinds import chain, chain_judged, demands, kind_at, kinds
from slumberway.looked import looked_at
from slumberway.making import core
from slumberway.printer import printed
from slumberway.reader import tree_of
from tests.grown import Grower, bent, loose_tree
from tests.helper import refusal
from tests.readings import ByName, Long, Plain
from tests.second_kinds import Second, groups, meets, text_of, whole
from tests.test_kinds import all_paths, paths, second_kind_at
from tests.test_looked import second_look


class Small(unittest.TestCase):

    def same_refusal(self, text, kind, fields):
        """All of them refuse a text alike."""
        for function, more in ((kinds, ()), (kind_at, (None,)), (chain, ()), (chain_judged, (None,)), (core, ())):
            if kind in (Clash, Endless) and function in (chain, chain_judged):
                continue
            self.assertEqual(list(vars(refusal(self, kind, function, text, *more)).values()), fields)

    def refused_look(self, text, kind, fields):
        self.assertEqual(list(vars(refusal(self, kind, looked_at, text)).values()), fields)
        self.same_refusal(text, kind, fields)
        self.assertEqual(list(vars(refusal(self, kind, demands, text, "nowhere")).values()), fields)

    def lists(self, chance, second, found, told):
        """Lists that are judged: the one that was told, all of its parts but one, and drawn ones."""
        yield told
        yield told[1:]
        yield [*told, told[-1] + 1]
        for _ in range(4):
            yield sorted(chance.sample(range(len(found)), chance.randint(1, min(4, len(found)))))

    def is_chain(self, found, numbers):
        if not numbers or numbers[-1] >= len(found):
            return False
        rows = [found[number] for number in numbers]
        return meets(rows)[0] != "fine" and all(meets(rows[:at] + rows[at + 1:])[0] == "fine" for at in range(len(rows)))

    def at_fault(self, chance, text, second):
        number, verdict, met = second.fault
        place, one, other = second.demands[number]
        names = {}
        fields = [place, text_of(whole(one, met), names), text_of(whole(other, met), names)]
        kind = Clash if verdict == "clash" else Endless
        self.same_refusal(text, kind, fields)
        numbers = chain(text)
        self.assertTrue(self.is_chain(second.demands, numbers))
        for told in self.lists(chance, second, second.demands, numbers):
            self.assertIs(chain_judged(text, told), self.is_chain(second.demands, told))
        return fields, kind

    def fine(self, chance, text, tree, second):
        self.assertEqual(kinds(text), {name: text_of(kind, {}) for name, kind in sorted(second.schemes.items())})
        self.assertIsNone(chain(text))
        self.assertIs(chain_judged(text, [0]), False)
        found = paths(tree)
        for address in found:
            self.assertEqual(kind_at(text, address), second_kind_at(second, tree, address))
        others = [path for path in all_paths(tree) if path not in found]
        for address in chance.sample(others, min(5, len(others))):
            self.assertEqual(refusal(self, NoAddress, kind_at, text, address).address, address)
        program = core(text)
        self.assertIsNone(program_wrong(program))
        for x, _ in program[2]:
            try:
                wanted = Plain(tree, 120).answer(x, 2)
            except Long:
                continue
            self.assertEqual(ByName(program, 1300).answer(x, 2), wanted)

    def check(self, chance, text):
        before = list(text)
        try:
            tree = tree_of(text)
        except SlumberError as error:
            self.refused_look(text, error.__class__, list(vars(error).values()))
            return "unread"
        wrong = second_look(tree)
        if wrong is not None:
            self.refused_look(text, wrong[0], list(wrong[1]))
            return wrong[0].__name__
        self.assertIsNone(looked_at(text))
        self.assertEqual(refusal(self, NoName, demands, text, "nowhere").name, "nowhere")
        second = Second(tree)
        for group, found in second.told:
            names = {}
            wanted = [(place, text_of(one, names), text_of(other, names)) for place, one, other in found]
            for one in group:
                self.assertEqual(demands(text, one[2]), wanted)
        if second.fault is None:
            self.fine(chance, text, tree, second)
        else:
            fields, kind = self.at_fault(chance, text, second)
            for one in [one for group in groups(tree)[len(second.told):] for one in group]:
                self.assertEqual(list(vars(refusal(self, kind, demands, text, one[2])).values()), fields)
        self.assertEqual(text, before)
        return "fine" if second.fault is None else second.fault[1]

    def test_grown_and_bent_texts(self):
        seen = []
        for seed in range(900):
            chance = random.Random(seed)
            tree = Grower(chance, chance.choice([1, 2, 2])).tree(chance.choice([1, 2, 3]))
            for _ in range(chance.choice([0, 0, 1, 1, 2])):
                tree = bent(chance, tree)
            text = printed(tree)
            if chance.random() < 0.1:
                at = chance.randrange(len(text))
                text = [*text[:at], *text[at + 1:]]
            with self.subTest(seed=seed):
                seen.append(self.check(chance, text))
        for word, least in [("fine", 300), ("clash", 100), ("Unknown", 20), ("unread", 5), ("Twice", 5)]:
            self.assertGreater(seen.count(word), least, word)

    def test_loose_texts(self):
        seen = []
        for seed in range(500):
            chance = random.Random(seed)
            with self.subTest(seed=seed):
                seen.append(self.check(chance, printed(loose_tree(chance, chance.choice([1, 2, 3])))))
        self.assertGreater(seen.count("endless"), 80)
        self.assertGreater(seen.count("fine"), 40)


class Deep(unittest.TestCase):
    """Texts that stand deep within one another, which are gone by another way, tell alike."""

    def test_texts_on_both_ways(self):
        for many in (10, 55, 57, 59, 60, 61, 62, 65, 100):
            for head, tail, last in [("fun x -> ", "", "x"), ("if True then x else ", "", "x"), ("let y = x in ", "", "y"),
                                     ("if True then Cons x Nil else ", "", "Nil")]:
                text = ["data List a = Nil | Cons a (List a)", "f x ="] + [" " + head] * many + [" " + last] + ["g = f 1"]
                wanted = kinds(text)
                self.assertEqual(list(wanted), ["f", "g"])
                if head[:3] == "fun":
                    self.assertEqual(wanted["f"], "a -> " + "".join(f"{letter} -> " for letter in LETTERS[1:many]) + "{0} -> {0}".format(
                        LETTERS[many]))
                else:
                    self.assertEqual(wanted["f"], "a -> List a" if "Cons" in head else "a -> a")
                self.assertIsNone(chain(text))
                self.assertEqual(kind_at(text, (1, 3, 0, 2, 0, 1)), wanted["f"].split(" -> ", 1)[1])
                self.assertEqual([row[1:] for row in demands(text, "g")][:1], [(wanted["f"], "Num -> " + LETTERS[len(set(
                    wanted["f"].replace("List ", "").split(" -> ")))])])
                for row, kind in [("h = 1 2", Clash), ("h = nowhere", Unknown), ("f = 1", Twice), ("h x = x x", Endless)]:
                    other = [*text, row]
                    one = refusal(self, kind, kinds, other)
                    if kind in (Clash, Endless):
                        self.assertTrue(chain_judged(other, chain(other)))
                        self.assertEqual((one.place[0], chain(other)), (len(other), [0]))


LETTERS = [one + other for one in ["", *"abcdefghijklmnopqrstuvwxyz"] for other in "abcdefghijklmnopqrstuvwxyz"]


if __name__ == "__main__":
    unittest.main()
