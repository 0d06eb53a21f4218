import random
import unittest

from slumberway.errors import NoReading, NoSign
from slumberway.lexemes import laid, lexemes
from slumberway.reader import tree_of
from tests.helper import LEXEME_WORDS, PRODUCTIONS, SPELT, Setter, grammar_word, refusal, sentence, walked

LEAF = ["(", "_", "maker", "name", "number"]
ATOM = ["(", "maker", "name", "number"]
EXPR = ["(", "case", "fun", "if", "let", "maker", "name", "number"]
# What goes on an expression that may be compared still, and one that may be no more.
ON = [*ATOM, "*", "+", "-", "<", "=="]
ON_COMPARED = [*ATOM, "*", "+", "-"]


class Refusals(unittest.TestCase):
    def check(self, text, place, wants):
        error = refusal(self, NoReading, tree_of, text)
        self.assertEqual(list(vars(error)), ["place", "wants"])
        self.assertEqual(error.place, place, text)
        self.assertEqual(error.wants, sorted(wants), text)
        self.assertEqual((error.place, error.wants), walked(laid(text)), text)


class Texts(Refusals):
    def test_without_lines(self):
        self.check([], (1, 1), ["data", "name"])
        self.check(["", "-- f"], (1, 1), ["data", "name"])

    def test_first_lexemes_of_lines(self):
        self.check(["1"], (1, 1), ["data", "name"])
        self.check(["  = 1"], (1, 3), ["data", "name"])
        self.check(["f = 1", "Cons"], (2, 1), ["data", "name"])
        self.check(["f = 1", "let x = 1 in x"], (2, 1), ["data", "name"])

    def test_behind_the_text_only_its_end(self):
        self.check(["  f = 1", " g = 2"], (2, 2), ["end"])
        self.check(["  f = 1", " ) g"], (2, 2), ["end"])
        self.check(["  data A = A", "in"], (2, 1), ["end"])

    def test_a_line_that_ends_too_soon(self):
        self.check(["f", "g = 1"], (2, 1), [*LEAF, "=", "|"])
        self.check(["f ="], (1, 4), EXPR)
        self.check(["f =", "g = 1"], (2, 1), EXPR)
        self.check(["f = 1 +", "g = 1"], (2, 1), ATOM)

    def test_rows_that_begin_with_no_item(self):
        self.check(["f = 1", ")"], (2, 1), [*ON, "item", "shut"])
        self.check(["f = 1", "| g = 1"], (2, 1), [*ON, "item", "shut"])


class Datas(Refusals):
    def test_heads(self):
        self.check(["data"], (1, 5), ["maker"])
        self.check(["data a"], (1, 6), ["maker"])
        self.check(["data L"], (1, 7), ["=", "name"])
        self.check(["data L a"], (1, 9), ["=", "name"])
        self.check(["data L B"], (1, 8), ["=", "name"])
        self.check(["data L 1"], (1, 8), ["=", "name"])
        self.check(["data L | A"], (1, 8), ["=", "name"])

    def test_mades(self):
        self.check(["data L ="], (1, 9), ["maker"])
        self.check(["data L = a"], (1, 10), ["maker"])
        self.check(["data L = A |"], (1, 13), ["maker"])
        self.check(["data L = A 1"], (1, 12), ["(", "item", "maker", "name", "shut", "|"])
        self.check(["data L = A -> B"], (1, 12), ["(", "item", "maker", "name", "shut", "|"])
        self.check(["data L = A _"], (1, 12), ["(", "item", "maker", "name", "shut", "|"])
        self.check(["data L = A a B (C) ="], (1, 20), ["(", "item", "maker", "name", "shut", "|"])

    def test_kinds(self):
        self.check(["data L = A ()"], (1, 13), ["(", "maker", "name"])
        self.check(["data L = A (_"], (1, 13), ["(", "maker", "name"])
        self.check(["data L = A (a b"], (1, 15), [")", "->"])
        self.check(["data L = A (a"], (1, 14), [")", "->"])
        self.check(["data L = A ((a) b"], (1, 17), [")", "->"])
        self.check(["data L = A (B"], (1, 14), ["(", ")", "->", "maker", "name"])
        self.check(["data L = A (B a 1"], (1, 17), ["(", ")", "->", "maker", "name"])
        self.check(["data L = A (a -> )"], (1, 18), ["(", "maker", "name"])
        self.check(["data L = A (a -> b c"], (1, 20), [")", "->"])
        self.check(["data L = A (a -> B |"], (1, 20), ["(", ")", "->", "maker", "name"])


class Equations(Refusals):
    def test_leafs(self):
        self.check(["f"], (1, 2), [*LEAF, "=", "|"])
        self.check(["f a A 1 _ ->"], (1, 11), [*LEAF, "=", "|"])
        self.check(["f +"], (1, 3), [*LEAF, "=", "|"])
        self.check(["f (a) =="], (1, 7), [*LEAF, "=", "|"])

    def test_patterns(self):
        self.check(["f ()"], (1, 4), LEAF)
        self.check(["f (a b"], (1, 6), [")"])
        self.check(["f (1 b"], (1, 6), [")"])
        self.check(["f (_ _"], (1, 6), [")"])
        self.check(["f ((A b) c"], (1, 10), [")"])
        self.check(["f (A = 1"], (1, 6), [*LEAF, ")"])
        self.check(["f (A b (C d) |"], (1, 14), [*LEAF, ")"])
        self.check(["f (A (B"], (1, 8), [*LEAF, ")"])

    def test_sides(self):
        self.check(["f = 1 = 2"], (1, 7), [*ON, "item", "shut"])
        self.check(["f = 1 | 2"], (1, 7), [*ON, "item", "shut"])
        self.check(["f | a"], (1, 6), [*ON, "="])
        self.check(["f | a -> 1"], (1, 7), [*ON, "="])
        self.check(["f | = 1"], (1, 5), EXPR)
        self.check(["f | a = 1 = 2"], (1, 11), [*ON, "|", "item", "shut"])
        self.check(["f | a = 1 | b = 2 )"], (1, 19), [*ON, "|", "item", "shut"])
        self.check(["f | fun x -> x -> 1"], (1, 16), [*ON, "="])


class Expressions(Refusals):
    def test_atoms_and_ops(self):
        self.check(["f = _"], (1, 5), EXPR)
        self.check(["f = ()"], (1, 6), EXPR)
        self.check(["f = a _"], (1, 7), [*ON, "item", "shut"])
        self.check(["f = (a"], (1, 7), [*ON, ")"])
        self.check(["f = (a then"], (1, 8), [*ON, ")"])
        self.check(["f = a b fun"], (1, 9), [*ON, "item", "shut"])
        self.check(["f = a if b then c else d"], (1, 7), [*ON, "item", "shut"])
        for sign in ("+", "-", "*", "<", "=="):
            self.check(["f = 1 " + sign], (1, 7 + len(sign)), ATOM)
            self.check(["f = 1 " + sign + " fun x -> x"], (1, 8 + len(sign)), ATOM)
            self.check(["f = " + sign + " 1"], (1, 5), EXPR)

    def test_compared_once(self):
        for one in ("<", "=="):
            for other in ("<", "=="):
                self.check(["f = 1 " + one + " 2 " + other + " 3"], (1, 10 + len(one)),
                           [*ON_COMPARED, "item", "shut"])
        self.check(["f = (1 < 2 + 3 * 4 < 5"], (1, 20), [*ON_COMPARED, ")"])

    def test_funs(self):
        self.check(["f = fun"], (1, 8), ["name"])
        self.check(["f = fun -> 1"], (1, 9), ["name"])
        self.check(["f = fun A"], (1, 9), ["name"])
        self.check(["f = fun a"], (1, 10), ["->", "name"])
        self.check(["f = fun a _"], (1, 11), ["->", "name"])
        self.check(["f = fun a b ->"], (1, 15), EXPR)
        self.check(["f = fun a -> b ->"], (1, 16), [*ON, "item", "shut"])

    def test_lets(self):
        self.check(["f = let"], (1, 8), ["open"])
        self.check(["f = let", "g = 1"], (2, 1), ["name"])
        self.check(["f = let in 1"], (1, 9), ["name"])
        self.check(["f = let data A = B in 1"], (1, 9), ["name"])
        self.check(["f = let x = 1"], (1, 14), ["in"])
        self.check(["f = let x in 1"], (1, 11), [*LEAF, "=", "|"])
        self.check(["f = let x = 1 in"], (1, 17), EXPR)
        self.check(["f = let x = 1", "g = 2"], (2, 1), ["in"])
        self.check(["f = let", "     x = 1", "     y"], (3, 7), [*LEAF, "=", "|"])
        self.check(["f = let x = let y = 1 in 2"], (1, 27), ["in"])
        self.check(["f = (let x = (1 in 2) in 3)"], (1, 17), [*ON, ")"])

    def test_ifs(self):
        self.check(["f = if"], (1, 7), EXPR)
        self.check(["f = if a"], (1, 9), [*ON, "then"])
        self.check(["f = if a else b"], (1, 10), [*ON, "then"])
        self.check(["f = if a then b"], (1, 16), [*ON, "else"])
        self.check(["f = if a < b then b == c then"], (1, 26), [*ON_COMPARED, "else"])
        self.check(["f = if a then b else"], (1, 21), EXPR)
        self.check(["f = if a then b else c else"], (1, 24), [*ON, "item", "shut"])

    def test_cases(self):
        self.check(["f = case"], (1, 9), EXPR)
        self.check(["f = case a"], (1, 11), [*ON, "of"])
        self.check(["f = case a of"], (1, 14), ["open"])
        self.check(["f = case a of", "A -> 1"], (2, 1), LEAF)
        self.check(["f = case a of -> 1"], (1, 15), LEAF)
        self.check(["f = case a of A"], (1, 16), [*LEAF, "->", "|"])
        self.check(["f = case a of A b = 1"], (1, 19), [*LEAF, "->", "|"])
        self.check(["f = case a of b c"], (1, 17), ["->", "|"])
        self.check(["f = case a of (b) ="], (1, 19), ["->", "|"])
        self.check(["f = case a of 1 1"], (1, 17), ["->", "|"])
        self.check(["f = case a of A ->"], (1, 19), EXPR)
        self.check(["f = case a of A -> 1 | b -> 2"], (1, 22), [*ON, "item", "shut"])
        self.check(["f = case a of A | b = 1"], (1, 21), [*ON, "->"])
        self.check(["f = case a of A | b -> 1 ->"], (1, 26), [*ON, "|", "item", "shut"])
        self.check(["f = case a of A | b -> 1 | ->"], (1, 28), EXPR)

    def test_behind_blocks(self):
        self.check(["f = (case a of A -> 1) of"], (1, 24), [*ON, "item", "shut"])
        self.check(["f = case a of", "  A -> 1", " + 2"], (3, 2), ["item", "shut"])
        self.check(["f = if case a of", "       A -> 1", " + 2"], (3, 2), ["then"])
        self.check(["f | case a of", "       A -> 1", "  -> 2"], (3, 3), ["="])

    def test_further_out(self):
        self.check(["f | if a then b else fun c -> if d then e else g h |"], (1, 52), [*ON, "="])
        self.check(["f = case a of b | fun c -> fun d -> 1 < e of"], (1, 43), [*ON_COMPARED, "->"])
        self.check(["f = (let x = 1 in if a then fun b -> b c ="], (1, 42), [*ON, "else"])


class OrderOfRefusals(unittest.TestCase):
    def test_no_sign_goes_first(self):
        self.assertEqual(refusal(self, NoSign, tree_of, ["= = =", "f = 01"]).place, (2, 6))
        self.assertEqual(refusal(self, NoSign, tree_of, [") ?"]).place, (1, 3))

    def test_the_first_place_counts(self):
        self.assertEqual(refusal(self, NoReading, tree_of, ["f = )", "g = )"]).place, (1, 5))


def bent(chance, text):
    """Tells a text with one lexeme left out, told twice, or another one in its stead."""
    told = lexemes(text)
    (row, column), _, word = chance.choice(told)
    other = chance.choice(["", word + " " + word, *[chance.choice(SPELT.get(one, [one])) for one in LEXEME_WORDS]])
    rows = list(text)
    old = rows[row - 1]
    rows[row - 1] = old[:column - 1] + " " + other + " " + old[column - 1 + len(word):]
    return rows


class SetBesideTheGrammar(unittest.TestCase):
    def found(self, text):
        """Tells (place, wants) of what tree_of refuses, None where it tells a tree."""
        try:
            tree_of(text)
        except NoReading as error:
            return (error.place, error.wants)
        return None

    def test_sentences_are_taken_and_bent_ones_refused(self):
        chance = random.Random(7)
        refused = 0
        for number in range(700):
            words = sentence(chance, "text", 4 + number // 40)
            if len(words) > 150:
                continue
            text = Setter(chance).set_words(words)
            self.assertEqual([grammar_word(lexeme) for lexeme in laid(text)], words, text)
            self.assertIsNone(self.found(text), text)
            for _ in range(6):
                other = bent(chance, text)
                right = walked(laid(other))
                refused += right is not None
                self.assertEqual(self.found(other), right, other)
        self.assertGreater(refused, 1000)

    def test_each_rule_gone_on_by_each_word(self):
        # Each production is come to by short rows of words ahead of it, and each of its words is bent to each other.
        chance = random.Random(8)
        for left, rights in PRODUCTIONS.items():
            for right in rights:
                text = text_with(chance, left, right)
                self.assertIsNone(self.found(text), text)
                for place, _, word in lexemes(text):
                    for other in LEXEME_WORDS:
                        rows = list(text)
                        spot = place[1] - 1
                        row = rows[place[0] - 1]
                        new = SPELT.get(other, [other])[0]
                        rows[place[0] - 1] = row[:spot] + " " + new + " " + row[spot + len(word):]
                        self.assertEqual(self.found(rows), walked(laid(rows)), rows)


def parents():
    """Tells a dict from each symbol to a production, on a least way from whole, in which it stands."""
    told = {}
    todo = ["whole"]
    while todo:
        left = todo.pop(0)
        for right in PRODUCTIONS[left]:
            for spot, symbol in enumerate(right):
                if symbol in PRODUCTIONS and symbol not in told and symbol != "whole":
                    told[symbol] = (left, right, spot)
                    todo.append(symbol)
    return told


def text_with(chance, left, right):
    """Tells a short text that the grammar reads by a production."""
    words = [word for symbol in right for word in sentence(chance, symbol, 0)]
    around = parents()
    while left != "whole":
        left, outer, spot = around[left]
        ahead = [word for symbol in outer[:spot] for word in sentence(chance, symbol, 0)]
        behind = [word for symbol in outer[spot + 1:] for word in sentence(chance, symbol, 0)]
        words = ahead + words + behind
    return Setter(chance).set_words(words[:-1] if words[-1] == "end" else words)


if __name__ == "__main__":
    unittest.main()
