"""kinds, demands, Clash and Endless: texts of kinds, groups, demands and their meeting (11 to 13)."""

import random
import unittest

from slumberway.errors import (Clash, Counts, Endless, NoAddress, NoName, NoReading, NoSign, Parts, SlumberError, Twice,
                               Unknown)
from slumberway.kinds import chain, chain_judged, demands, kind_at, kinds
from slumberway.printer import printed
from slumberway.reader import tree_of
from tests.grown import Grower, bent, loose_tree, part_of, spots
from tests.helper import refusal
from tests.second_kinds import Second, groups, text_of, whole

LIST = "data List a = Nil | Cons a (List a)"
PAIR = "data Pair a b = Pair a b"


class Texts(unittest.TestCase):
    """What kinds look like (11)."""

    def kind(self, *rows):
        return kinds(list(rows))["f"]

    def test_words_alone(self):
        self.assertEqual(self.kind("f = 1"), "Num")
        self.assertEqual(self.kind("f = True"), "Truth")
        self.assertEqual(self.kind("data Color = Red", "f = Red"), "Color")

    def test_parts_and_brackets(self):
        self.assertEqual(self.kind(LIST, "f = Nil"), "List a")
        self.assertEqual(self.kind(LIST, "f = Cons (Cons 1 Nil) Nil"), "List (List Num)")
        self.assertEqual(self.kind(LIST, PAIR, "f = Pair (Cons 1 Nil) 2"), "Pair (List Num) Num")
        self.assertEqual(self.kind(LIST, "f = Cons (fun x -> 1) Nil"), "List (a -> Num)")
        self.assertEqual(self.kind(PAIR, "f = Pair (Pair 1 True) (Pair 2)"), "Pair (Pair Num Truth) (a -> Pair Num a)")

    def test_arrows(self):
        self.assertEqual(self.kind("f x y = 1"), "a -> b -> Num")
        self.assertEqual(self.kind("f g = 1 + g 1"), "(Num -> Num) -> Num")
        self.assertEqual(self.kind("f g = 1 + g (fun x -> x + 1) 2"), "((Num -> Num) -> Num -> Num) -> Num")
        self.assertEqual(self.kind(LIST, "f (Cons g _) = g"), "List a -> a")
        self.assertEqual(self.kind(LIST, "f g = Cons g Nil", "h = f (fun x -> x)"), "a -> List a")

    def test_letters_as_they_first_come(self):
        self.assertEqual(self.kind("f x y z = x z (y z)"), "(a -> b -> c) -> (a -> b) -> a -> c")
        self.assertEqual(self.kind("f x = fun y -> y x"), "a -> (a -> b) -> b")

    def test_letters_beyond_z(self):
        rows = ["data W a b c d e f g h = W a b c d e f g h", "f = fun a b c d e f g h -> fun i j k l m n o p ->",
                " fun q r s t u v w x -> fun y z aa bb cc ->", " W a (W i (W q (W y z aa bb cc x w v) r s t u v w)",
                "  j k l m n o) b c d e f g"]
        told = self.kind(*rows)
        self.assertTrue(told.startswith("a -> b -> c -> d -> "))
        self.assertIn(" -> z -> aa -> ab -> ac -> W a (W i (W q (W y z aa ab ac x w v) r s t u v w) j k l m n o)", told)
        many = ["f ="] + [f" fun {one}{other} ->" for one in "abcd" for other in "abcdefgh"] * 25 + [" 1"]
        told = self.kind(*many[:390], " 1").split(" -> ")
        self.assertEqual(told[:3] + told[25:29], ["a", "b", "c", "z", "aa", "ab", "ac"])
        self.assertEqual(told[51:54] + told[77:79] + told[-2:], ["az", "ba", "bb", "bz", "ca", "ny", "Num"])

    def test_kinds_of_makers(self):
        self.assertEqual(self.kind(LIST, "f = Cons"), "a -> List a -> List a")
        self.assertEqual(self.kind("data A a b = B (b -> a) Num | C", "f = B"), "(a -> b) -> Num -> A b a")
        self.assertEqual(self.kind("data A a b = B (b -> a) Num | C", "f = C"), "A a b")

    def test_kinds_within_kinds_in_data(self):
        self.assertEqual(self.kind(LIST, PAIR, "data A a = B (List (List a) -> Pair (List a) (Pair Num a))", "f = B"),
                         "(List (List a) -> Pair (List a) (Pair Num a)) -> A a")
        self.assertEqual(self.kind("data A a b = B (((b -> a) -> b) -> a -> b) | C", "f = B"),
                         "(((a -> b) -> a) -> b -> a) -> A b a")

    def test_a_dict_sorted_new_and_again(self):
        text = ["z = 1", "a = 2", "m x = a", "data B = B"]
        told = kinds(text)
        self.assertEqual(list(told.items()), [("a", "Num"), ("m", "a -> Num"), ("z", "Num")])
        told.clear()
        self.assertEqual(kinds(text=text), {"z": "Num", "a": "Num", "m": "a -> Num"})
        self.assertEqual(text, ["z = 1", "a = 2", "m x = a", "data B = B"])
        self.assertEqual(kinds(["data B = B"]), {})


class Groups(unittest.TestCase):
    """Tops that use one another (11)."""

    def test_a_def_used_ahead_of_its_row(self):
        self.assertEqual(kinds(["f = g 1", "g x = x"]), {"f": "Num", "g": "a -> a"})

    def test_another_groups_name_at_two_kinds(self):
        self.assertEqual(kinds(["f = if g True then g 1 else h", "g x = x", "h = 2"])["f"], "Num")

    def test_an_own_groups_name_at_two_kinds(self):
        error = refusal(self, Clash, kinds, ["f x = if f True then f 1 else 2"])
        self.assertEqual((error.place, error.one, error.other), ((1, 24), "Truth -> a", "Num -> b"))

    def test_a_lets_name_at_two_kinds(self):
        error = refusal(self, Clash, kinds, ["f = let g x = x in if g True then g 1 else 2"])
        self.assertEqual((error.place, error.one, error.other), ((1, 37), "Truth -> Truth", "Num -> a"))

    def test_one_another_directly_and_by_others(self):
        text = ["a x = b x", "e x = x", "b x = c x", "c x = a (e x)", "d = c 1"]
        self.assertEqual(kinds(text)["a"], "a -> b")
        self.assertEqual([len(demands(text, name)) for name in "abcde"], [2 + 2 + 3, 7, 7, 2, 1])
        self.assertEqual(demands(text, "b"), demands(text, "a"))

    def test_the_widest_though_others_use_it_narrowly(self):
        self.assertEqual(kinds(["f x = x", "g = f 1", "h = f True"])["f"], "a -> a")

    def test_hidden_names_are_no_use(self):
        self.assertEqual(kinds(["f x = let g y = f in 1", "g = f 1 + f True"]), {"f": "a -> Num", "g": "Num"})

    def test_the_order_of_groups_by_the_first_fault(self):
        faulty = ["p = 1 True", "q = 1 2"]
        self.assertEqual(refusal(self, Clash, kinds, faulty).place, (1, 7))
        # q is there ahead of p, as p uses it.
        self.assertEqual(refusal(self, Clash, kinds, ["p = 1 q", "q = 1 2"]).place, (2, 7))
        self.assertEqual(refusal(self, Clash, kinds, ["p = r 1 1", "q = 1 2", "r = 3"]).place, (2, 7))
        self.assertEqual(refusal(self, Clash, kinds, ["p = r", "q = 1 2", "r = 3 4"]).place, (2, 7))
        # Of those that use none that isn't there, the first by the text, not the first that had to wait.
        self.assertEqual(refusal(self, Clash, kinds, ["p = 1 b", "b = 1", "q = 1 2"]).place, (1, 7))
        # A group stands where its first def stands.
        self.assertEqual(refusal(self, Endless, kinds, ["b x = p x True", "q = 1 2", "p x = b x"]).place, (3, 7))

    def test_a_fault_in_a_group_that_nothing_uses(self):
        self.assertEqual(refusal(self, Clash, kinds, ["f = 1", "g = True + 1"]).place, (2, 5))


class Demands(unittest.TestCase):
    """Which pairs, in which order, where (12)."""

    def check(self, rows, wanted, name="f"):
        self.assertEqual(demands(rows, name), wanted)

    def test_kinds_without_a_demand(self):
        for e, kind, other in [("1", "Num", "a"), ("True", "Truth", "a"), ("fun x y -> 1", "a -> b -> Num", "c"),
                               ("f", "a", "a"), ("g", "a -> b -> a", "c"), ("Cons", "a -> List a -> List a", "b"),
                               ("Nil", "List a", "b")]:
            self.check(["f = " + e, "g x y = x", LIST], [((1, 5), kind, other)])

    def test_patterns(self):
        self.check([LIST, "f (Cons 1 (Cons x r)) _ y = y"], [
            ((2, 9), "a", "Num"),
            ((2, 12), "List a", "List b"),
            ((2, 4), "c", "List a"),
            ((2, 29), "d", "e"),
        ])
        self.check([LIST, "f True Nil = 1", "f x 2 = x"], [
            ((2, 3), "a", "Truth"), ((2, 8), "b", "List c"), ((2, 14), "Num", "d"),
            ((3, 5), "b", "Num"), ((3, 9), "a", "d"),
        ])

    def test_guards(self):
        self.check(["f x | x = 1", "    | x < 2 = x"], [
            ((1, 7), "a", "Truth"), ((1, 11), "Num", "b"),
            ((2, 7), "a", "Num"), ((2, 11), "Num", "Num"), ((2, 9), "Truth", "Truth"), ((2, 15), "a", "b"),
        ])

    def test_calls(self):
        self.check(["f g x = (g 1) (x 2) x True"], [
            ((1, 12), "a", "Num -> b"),
            ((1, 18), "c", "Num -> d"),
            ((1, 16), "b", "d -> e"),
            ((1, 21), "e", "c -> f"),
            ((1, 23), "f", "Truth -> g"),
            ((1, 9), "g", "h"),
        ])

    def test_ops(self):
        for sign, kind in [("+", "Num"), ("-", "Num"), ("*", "Num"), ("<", "Truth"), ("==", "Truth")]:
            at = 11 + len(sign)
            self.check([f"f x y = x {sign} y"], [
                ((1, 9), "a", "Num"), ((1, at + 1), "b", "Num"), ((1, 11), kind, "c")])
        self.check(["f = (1 + 2) * 3"], [
            ((1, 6), "Num", "Num"), ((1, 10), "Num", "Num"), ((1, 8), "Num", "Num"), ((1, 15), "Num", "Num"),
            ((1, 13), "Num", "a")])

    def test_if(self):
        self.check(["f x y z = if x 1 then y 2 else z 3"], [
            ((1, 16), "a", "Num -> b"), ((1, 25), "c", "Num -> d"), ((1, 34), "e", "Num -> f"),
            ((1, 14), "b", "Truth"), ((1, 32), "f", "d"), ((1, 11), "d", "g")])

    def test_case(self):
        self.check([LIST, "f x = case x 1 of", "  Cons y 2 | y -> 3", "           | x -> y", "  z -> z"], [
            ((2, 14), "a", "Num -> b"),
            ((3, 10), "List c", "Num"), ((3, 3), "b", "List c"),
            ((3, 14), "c", "Truth"), ((3, 19), "Num", "d"),
            ((4, 14), "a", "Truth"), ((4, 19), "c", "d"),
            ((5, 8), "b", "d"),
            ((2, 7), "d", "e")])

    def test_let(self):
        self.check(["f x = let g 1 y = h y", "          g _ z = 2", "          h = g x", "      in h 3"], [
            ((1, 13), "a", "Num"), ((1, 21), "b", "c -> d"), ((1, 19), "d", "e"),
            ((2, 19), "Num", "e"),
            ((3, 17), "a -> c -> e", "f -> g"), ((3, 15), "g", "b"),
            ((4, 12), "b", "Num -> h"), ((1, 7), "h", "i")])

    def test_fun(self):
        self.check(["f = (fun x y -> x) 1"], [((1, 20), "a -> b -> a", "Num -> c"), ((1, 5), "c", "d")])

    def test_names_and_makers_anew_at_each_use(self):
        self.check([LIST, "f = i i (Cons Nil) Nil", "i x = x"], [
            ((2, 15), "a -> List a -> List a", "List b -> c"),
            ((2, 7), "d -> d", "(e -> e) -> f"),
            ((2, 10), "f", "c -> g"), ((2, 20), "g", "List h -> i"), ((2, 5), "i", "j")])

    def test_a_def_of_its_own_group(self):
        self.check(["f x y = f y x", "f 1 z = z"], [
            ((1, 11), "a -> b -> c", "b -> d"), ((1, 13), "d", "a -> e"), ((1, 9), "e", "c"),
            ((2, 3), "a", "Num"), ((2, 9), "b", "c")])

    def test_defs_of_a_group_in_the_order_of_the_text(self):
        text = ["g x = f 1", "h = 1", "f y = g True"]
        wanted = [((1, 9), "a -> b", "Num -> c"), ((1, 7), "c", "d"), ((3, 9), "e -> d", "Truth -> f"),
                  ((3, 7), "f", "b")]
        self.check(text, wanted, "f")
        self.check(text, wanted, "g")
        self.check(text, [((2, 5), "Num", "a")], "h")

    def test_no_name(self):
        for thing in ("g", "F", "", "x", None, 1, True, ["f"], ("f",), {}):
            self.assertEqual(refusal(self, NoName, demands, ["f x = 1", "data G = F"], thing).name, thing)

    def test_refused_where_a_group_ahead_is_at_fault(self):
        text = ["f = 1", "g = 1 2", "h = 3", "i = h"]
        self.assertEqual(demands(text, "f"), [((1, 5), "Num", "a")])
        self.assertEqual(demands(text, "g"), [((2, 7), "Num", "Num -> a"), ((2, 5), "a", "b")])
        self.assertEqual(refusal(self, Clash, demands, text, "h").place, (2, 7))
        self.assertEqual(refusal(self, Clash, demands, text, "i").place, (2, 7))
        # h goes ahead of g here.
        text = ["f = 1", "g = h 1 2", "h = 3", "i = h"]
        self.assertEqual(demands(text, "h"), [((3, 5), "Num", "a")])
        self.assertEqual(refusal(self, NoName, demands, text, "k").name, "k")

    def test_new_again_and_by_names(self):
        text = ["f = 1"]
        told = demands(text=text, name="f")
        told.append(1)
        self.assertEqual(demands(text, "f"), [((1, 5), "Num", "a")])


class Refused(unittest.TestCase):

    def check(self, rows, kind, *wanted):
        error = refusal(self, kind, kinds, rows)
        self.assertEqual((error.place, error.one, error.other), wanted)

    def test_ahead_of_all(self):
        clash = "x = 1 2"
        for rows, kind in [([clash, "?"], NoSign), ([clash, "f ="], NoReading), ([clash, "f = 1", "x = 2"], Twice),
                           ([clash, "f 1 = 1", "f = 2"], Counts), ([clash, "f = y"], Unknown),
                           ([clash, "f (True 1) = 1"], Parts)]:
            for function, *more in [(kinds,), (demands, "x"), (demands, "none"), (chain,), (chain_judged, [0]),
                                    (kind_at, (0, 3, 0, 2, 0, 1)), (kind_at, None)]:
                refusal(self, kind, function, rows, *more)

    def test_clash(self):
        self.check(["f = 1 + True"], Clash, (1, 9), "Truth", "Num")
        self.check(["f x = if x then x + 1 else 2"], Clash, (1, 10), "Num", "Truth")
        self.check([LIST, "f (Cons x (Cons y r)) = x y", "f (Cons _ 1) = 1"], Endless, (2, 27), "a", "a -> b")
        self.check([LIST, "f (Cons x r) = x 2", "f (Cons _ 1) = 1"], Clash, (3, 11), "List a", "Num")
        self.check([LIST, "f (Cons x r) = x 2", "f 1 = 1"], Clash, (3, 3), "List (Num -> a)", "Num")
        self.check([PAIR, "f x y = Pair x y 1"], Clash, (2, 18), "Pair a b", "Num -> c")
        self.check(["f 1 = 2", "f True = 3"], Clash, (2, 3), "Num", "Truth")

    def test_endless(self):
        self.check(["f x = x x"], Endless, (1, 9), "a", "a -> b")
        self.check([LIST, "f x = Cons x x"], Endless, (2, 14), "List a -> List a", "a -> b")
        self.check(["f = f 1 2", "g x = x"], Endless, (1, 5), "a", "Num -> Num -> a")
        self.check([LIST, "f x = Cons (f x) Nil"], Endless, (2, 7), "List a", "a")

    def test_a_clash_beside_what_is_endless_in_one_demand(self):
        # Kinds without end could make the letters meet, but not the numbers beside them.
        self.check([PAIR, "f g x = if g (Pair x 1) then 1 else if g (Pair (Pair x x) True) then 2 else 3"], Clash,
                   (2, 43), "Pair a Num -> b", "Pair (Pair a a) Truth -> c")
        self.check([PAIR, "f g x = if g (Pair x 1) then 1 else if g (Pair (Pair x x) 2) then 2 else 3"], Endless,
                   (2, 43), "Pair a Num -> b", "Pair (Pair a a) Num -> c")

    def test_the_first_demand_goes_first(self):
        self.check(["f x = x x + True"], Endless, (1, 9), "a", "a -> b")
        self.check(["f x = True + x x"], Endless, (1, 16), "a", "a -> b")
        self.check(["f x = (True + 1) + x x"], Clash, (1, 8), "Truth", "Num")

    def test_letters_over_both_texts(self):
        self.check([PAIR, "f x y z = (Pair x y) z"], Clash, (2, 22), "Pair a b", "c -> d")

    def test_asked_again(self):
        for _ in range(2):
            self.check(["f = 1 + True"], Clash, (1, 9), "Truth", "Num")


class KindAt(unittest.TestCase):

    def test_each_way_down(self):
        text = [LIST, "f g x = case g x of", "  Nil | x < 1 -> let h y = y 2 in h", "  Cons a _ -> fun z -> if a then 3 else 4"]
        wanted = {
            (1, 3, 0, 2, 0, 1): "(a -> Num) -> Num",
            (1, 3, 0, 2, 0, 1, 2): "List Truth",
            (1, 3, 0, 2, 0, 1, 2, 2): "Num -> List Truth",
            (1, 3, 0, 2, 0, 1, 2, 3, 0): "Num",
            (1, 3, 0, 2, 0, 1, 3, 0, 2, 0, 0): "Truth",
            (1, 3, 0, 2, 0, 1, 3, 0, 2, 0, 0, 3): "Num",
            (1, 3, 0, 2, 0, 1, 3, 0, 2, 0, 1, 2, 0, 3, 0, 2, 0, 1): "Num",
            (1, 3, 0, 2, 0, 1, 3, 0, 2, 0, 1, 3): "(Num -> Num) -> Num",
            (1, 3, 0, 2, 0, 1, 3, 1, 2, 0, 1, 3): "Num",
            (1, 3, 0, 2, 0, 1, 3, 1, 2, 0, 1, 3, 2): "Truth",
        }
        self.assertEqual(kinds(text), {"f": "(Num -> List Truth) -> Num -> (Num -> Num) -> Num"})
        for address, kind in wanted.items():
            self.assertEqual(kind_at(text, address), kind.replace("(a -> Num)", "(Num -> Num)"))

    def test_letters(self):
        text = ["f x y = let g z = y in g (fun u v -> x)"]
        self.assertEqual(kinds(text), {"f": "a -> b -> b"})
        call = (0, 3, 0, 2, 0, 1, 3)
        self.assertEqual(kind_at(text, call), "b")
        self.assertEqual(kind_at(text, (*call, 2)), "(c -> d -> a) -> b")
        self.assertEqual(kind_at(text, (*call, 3, 0)), "c -> d -> a")
        self.assertEqual(kind_at(text, (*call, 3, 0, 3)), "a")
        self.assertEqual(kind_at(["f = 1", "g x = h h", "h x = x"], (1, 3, 0, 2, 0, 1, 2)), "(b -> b) -> b -> b")

    def test_each_address_of_a_tree_and_no_other(self):
        text = printed(Grower(random.Random(3), 3).tree(2))
        tree = tree_of(text)
        second = Second(tree)
        addresses = [path for path in paths(tree)]
        self.assertGreater(len(addresses), 20)
        for address in addresses:
            e = part_of(tree, address)
            self.assertEqual(kind_at(text, address), second_kind_at(second, tree, address), (address, e))
        seen = 0
        for address in all_paths(tree):
            if address not in addresses:
                seen += 1
                if seen % 5 == 0:
                    self.assertEqual(refusal(self, NoAddress, kind_at, text, address).address, address)
        self.assertGreater(seen, 100)

    def test_no_address(self):
        text = ["f 1 = case 2 of 3 -> 4", "data A = B"]
        good = (0, 3, 0, 2, 0, 1)
        self.assertEqual(kind_at(text, (*good, 2)), "Num")
        for thing in (None, 1, "f", [], list(good), (), good[:-1], (*good[:-1], 0), (*good[:-1], 2), (*good, 3, 0, 1),
                      (False, *good[1:]), (*good[:-1], True), (-2, *good[1:]), (0, 3, -1, 2, 0, 1), (0, 3, 0, 1, 0),
                      ("0", *good[1:]), (0.0, *good[1:]), (1,), (1, 3), (1, 4, 0), (2,), (0, [3]), ([],), (0, 2), (0, 0),
                      (*good, 2, 2), (*good, 2, 0), (10 ** 40,), (None, 1), good + ({},)):
            self.assertEqual(refusal(self, NoAddress, kind_at, text, thing).address, thing)

    def test_refused_as_kinds_ahead_of_the_address(self):
        error = refusal(self, Clash, kind_at, ["f = 1", "g = 1 2"], None)
        self.assertEqual((error.place, error.one, error.other), ((2, 7), "Num", "Num -> a"))
        refusal(self, Endless, kind_at, ["f x = x x"], (0, 3, 0, 2, 0, 1))

    def test_by_names(self):
        self.assertEqual(kind_at(text=["f = 1"], address=(0, 3, 0, 2, 0, 1)), "Num")


def paths(tree):
    """Tells the addresses of all expressions of a tree, by the words of the tuples alone."""
    told = []

    def sides(found, path):
        for number, (guard, side) in enumerate(found):
            if guard is not None:
                expr(guard, (*path, number, 0))
            expr(side, (*path, number, 1))

    def defs(found, path):
        for number, one in enumerate(found):
            if one[0] == "def":
                for at, rule in enumerate(one[3]):
                    sides(rule[2], (*path, number, 3, at, 2))

    def expr(e, path):
        told.append(path)
        for number in {"call": [2], "op": [3, 4], "fun": [3], "let": [3], "if": [2, 3, 4], "case": [2]}.get(e[0], []):
            expr(e[number], (*path, number))
        if e[0] == "call":
            for number, part in enumerate(e[3]):
                expr(part, (*path, 3, number))
        if e[0] == "let":
            defs(e[2], (*path, 2))
        if e[0] == "case":
            for number, choice in enumerate(e[3]):
                sides(choice[2], (*path, 3, number, 2))

    defs(tree, ())
    return told


def all_paths(thing, path=()):
    told = [path]
    if isinstance(thing, tuple):
        for number, part in enumerate(thing):
            told.extend(all_paths(part, (*path, number)))
    return told


def second_kind_at(second, tree, address):
    e = part_of(tree, address)
    names = {}
    text_of(second.schemes[tree[address[0]][2]], names)
    return text_of(second.at[(e[0], e[1])][0], names)


class Meeting(unittest.TestCase):
    """All of it beside a second way to tell it."""

    def check(self, text, chance, seen):
        try:
            told = kinds(text)
            error = None
        except (Clash, Endless) as found:
            told, error = None, found
        except SlumberError:
            return
        tree = tree_of(text)
        second = Second(tree)
        seen.append(error.__class__.__name__ if error else "fine")
        if error is None:
            self.assertIsNone(second.fault)
            self.assertEqual(told, {name: text_of(kind, {}) for name, kind in second.schemes.items()})
            self.assertEqual(list(told), sorted(told))
            self.assertIsNone(chain(text))
            self.assertIs(chain_judged(text, [0]), False)
            for address in chance.sample(paths(tree), 3 if len(paths(tree)) > 3 else 1):
                self.assertEqual(kind_at(text, address), second_kind_at(second, tree, address))
        else:
            number, verdict, met = second.fault
            place, one, other = second.demands[number]
            names = {}
            wanted = (place, text_of(whole(one, met), names), text_of(whole(other, met), names), verdict.capitalize())
            self.assertEqual((error.place, error.one, error.other, error.__class__.__name__), wanted)
        for group, found in second.told:
            names = {}
            wanted = [(place, text_of(one, names), text_of(other, names)) for place, one, other in found]
            for one in group:
                self.assertEqual(demands(text, one[2]), wanted)
        for one in [one for group in groups(tree)[len(second.told):] for one in group]:
            refused = refusal(self, error.__class__, demands, text, one[2])
            self.assertEqual((refused.place, refused.one, refused.other), (error.place, error.one, error.other))

    def test_grown_texts(self):
        seen = []
        for seed in range(260):
            chance = random.Random(seed)
            tree = Grower(chance, chance.choice([2, 3])).tree(chance.choice([1, 2, 3, 4]))
            if chance.random() < 0.6:
                tree = bent(chance, tree)
            with self.subTest(seed=seed):
                self.check(printed(tree), chance, seen)
        self.assertGreater(seen.count("fine"), 100)
        self.assertGreater(seen.count("Clash"), 40)

    def test_loose_texts(self):
        seen = []
        for seed in range(400):
            chance = random.Random(seed)
            with self.subTest(seed=seed):
                self.check(printed(loose_tree(chance, chance.choice([1, 2, 3, 4]))), chance, seen)
        self.assertGreater(seen.count("fine"), 20)
        self.assertGreater(seen.count("Clash"), 40)
        self.assertGreater(seen.count("Endless"), 40)

    def test_the_grown_trees_hold_all_words(self):
        words = set()
        for seed in range(30):
            tree = Grower(random.Random(seed), 4).tree(3)
            words |= {part_of(tree, path)[0] for path in spots(tree)}
        self.assertEqual(len(words), 12)


if __name__ == "__main__":
    unittest.main()
