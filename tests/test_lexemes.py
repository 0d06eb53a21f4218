import unittest

from slumberway.errors import NoSign
from slumberway.lexemes import lexemes
from tests.helper import refusal


def short(row):
    """Tells a row's lexemes as (column, sort, word)."""
    told = lexemes([row])
    assert all(place[0] == 1 for place, _, _ in told)
    return [(place[1], sort, word) for place, sort, word in told]


def words(row):
    return [word for _, _, word in lexemes([row])]


class Sorts(unittest.TestCase):
    def test_a_text(self):
        text = ["data L a = Nil | Cons a", "", "f (Cons x _) = x + 10"]
        self.assertEqual(lexemes(text), [
            ((1, 1), "word", "data"), ((1, 6), "maker", "L"), ((1, 8), "name", "a"), ((1, 10), "sign", "="),
            ((1, 12), "maker", "Nil"), ((1, 16), "sign", "|"), ((1, 18), "maker", "Cons"),
            ((1, 23), "name", "a"),
            ((3, 1), "name", "f"), ((3, 3), "sign", "("), ((3, 4), "maker", "Cons"), ((3, 9), "name", "x"),
            ((3, 11), "sign", "_"), ((3, 12), "sign", ")"), ((3, 14), "sign", "="), ((3, 16), "name", "x"),
            ((3, 18), "sign", "+"), ((3, 20), "number", "10"),
        ])

    def test_names(self):
        for word in ("a", "z", "abcdefgh", "zzzzzzzz", "datas", "inn", "lets", "dat", "o", "end", "open"):
            self.assertEqual(short(word), [(1, "name", word)])

    def test_words(self):
        for word in ("data", "let", "in", "if", "then", "else", "case", "of", "fun"):
            self.assertEqual(short(" " + word), [(2, "word", word)])

    def test_makers(self):
        for word in ("A", "Z", "Abcdefgh", "Zzzzzzzz", "Data", "In", "Let"):
            self.assertEqual(short(word), [(1, "maker", word)])

    def test_numbers(self):
        for word in ("0", "1", "9", "10", "100", "123456789012345678901234567890", "9" * 100):
            self.assertEqual(short(word), [(1, "number", word)])

    def test_signs(self):
        for word in ("=", "|", "->", "(", ")", "+", "-", "*", "<", "==", "_"):
            self.assertEqual(short("  " + word + " "), [(3, "sign", word)])

    def test_as_many_signs_as_go_on_make_one(self):
        self.assertEqual(words("= =="), ["=", "=="])
        self.assertEqual(words("==="), ["==", "="])
        self.assertEqual(words("===="), ["==", "=="])
        self.assertEqual(words("->-"), ["->", "-"])
        self.assertEqual(words("<->"), ["<", "->"])
        self.assertEqual(words("=->"), ["=", "->"])
        self.assertEqual(words("- -"), ["-", "-"])
        self.assertEqual(words("a->b-1"), ["a", "->", "b", "-", "1"])
        self.assertEqual(words("___"), ["_", "_", "_"])
        self.assertEqual(words("letin in let"), ["letin", "in", "let"])

    def test_signs_straight_beside_others(self):
        self.assertEqual(short("f(X)_1*a=0"), [
            (1, "name", "f"), (2, "sign", "("), (3, "maker", "X"), (4, "sign", ")"), (5, "sign", "_"),
            (6, "number", "1"), (7, "sign", "*"), (8, "name", "a"), (9, "sign", "="), (10, "number", "0")])
        self.assertEqual(words("a_b"), ["a", "_", "b"])
        self.assertEqual(words("_a_0_A_let"), ["_", "a", "_", "0", "_", "A", "_", "let"])

    def test_blanks_part(self):
        self.assertEqual(short("   a    b  "), [(4, "name", "a"), (9, "name", "b")])
        self.assertEqual(short("abcdefgh i"), [(1, "name", "abcdefgh"), (10, "name", "i")])
        self.assertEqual(short("0 1"), [(1, "number", "0"), (3, "number", "1")])

    def test_no_rows_and_empty_rows(self):
        self.assertEqual(lexemes([]), [])
        self.assertEqual(lexemes(["", "   ", "-- none", ""]), [])
        self.assertEqual(lexemes(["", "a", "", "  b", ""]), [((2, 1), "name", "a"), ((4, 3), "name", "b")])


class Remarks(unittest.TestCase):
    def test_to_the_end_of_the_row_nothing_counts(self):
        self.assertEqual(lexemes(["a -- 01 @ \\ let", "b"]), [((1, 1), "name", "a"), ((2, 1), "name", "b")])

    def test_wherever_a_lexeme_could_begin(self):
        self.assertEqual(words("a--b"), ["a"])
        self.assertEqual(words("let--b"), ["let"])
        self.assertEqual(words("Ab--b"), ["Ab"])
        self.assertEqual(words("10--b"), ["10"])
        self.assertEqual(words("0--b"), ["0"])
        self.assertEqual(words("abcdefgh--i"), ["abcdefgh"])
        self.assertEqual(words("a -->b"), ["a"])
        self.assertEqual(words("a ---"), ["a"])
        self.assertEqual(words("---"), [])
        self.assertEqual(words("->--"), ["->"])
        self.assertEqual(words("=--"), ["="])
        self.assertEqual(words("(--)"), ["("])
        self.assertEqual(words("_--"), ["_"])

    def test_one_dash_is_none(self):
        self.assertEqual(words("a - b"), ["a", "-", "b"])
        self.assertEqual(words("a -"), ["a", "-"])


class Refused(unittest.TestCase):
    def at(self, text):
        error = refusal(self, NoSign, lexemes, text)
        self.assertEqual(list(vars(error)), ["place"])
        return error.place

    def test_behind_a_number(self):
        self.assertEqual(self.at(["01"]), (1, 2))
        self.assertEqual(self.at(["00"]), (1, 2))
        self.assertEqual(self.at(["0a"]), (1, 2))
        self.assertEqual(self.at(["a = 12x"]), (1, 7))
        self.assertEqual(self.at(["12X"]), (1, 3))

    def test_behind_a_name(self):
        self.assertEqual(self.at(["abcdefghi"]), (1, 9))
        self.assertEqual(self.at(["abcdefghijklm"]), (1, 9))
        self.assertEqual(self.at([" abcdefgh1"]), (1, 10))
        self.assertEqual(self.at(["a1"]), (1, 2))
        self.assertEqual(self.at(["aB"]), (1, 2))

    def test_behind_a_word(self):
        self.assertEqual(self.at(["let1"]), (1, 4))
        self.assertEqual(self.at(["ofA"]), (1, 3))

    def test_behind_a_maker(self):
        self.assertEqual(self.at(["Abcdefghi"]), (1, 9))
        self.assertEqual(self.at(["AB"]), (1, 2))
        self.assertEqual(self.at(["Cons1"]), (1, 5))
        self.assertEqual(self.at(["Abcdefgh0"]), (1, 9))

    def test_a_sign_that_no_lexeme_has(self):
        for sign in "!\"#$&',./:;>?@[\\]^`{}~" + chr(37) + "\t":
            self.assertEqual(self.at(["a", " b " + sign + "c"]), (2, 4), sign)
        self.assertEqual(self.at(["->>"]), (1, 3))
        self.assertEqual(self.at(["- >"]), (1, 3))
        self.assertEqual(self.at([">"]), (1, 1))

    def test_the_first_one_counts(self):
        self.assertEqual(self.at(["a", "01 @", "@"]), (2, 2))
        self.assertEqual(self.at(["a -- @", "b @", "c1"]), (2, 3))


if __name__ == "__main__":
    unittest.main()
