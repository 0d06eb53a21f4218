import random
import unittest

from slumberway.errors import NoSign
from slumberway.lexemes import laid, lexemes
from tests.helper import LEXEME_WORDS, SPELT, refusal, slow_laid

SHORT = {"open": "{", "item": ";", "shut": "}"}


def shown(*text):
    """Tells a text's lexemes and marks in a row, marks as { ; }."""
    return " ".join(SHORT[word] if sort == "mark" else word for _, sort, word in laid(list(text)))


def marks(*text):
    return [(place, word) for place, sort, word in laid(list(text)) if sort == "mark"]


class Tops(unittest.TestCase):
    def test_places_and_sorts(self):
        self.assertEqual(laid(["f = 1", "g = f"]), [
            ((1, 1), "mark", "open"), ((1, 1), "name", "f"), ((1, 3), "sign", "="), ((1, 5), "number", "1"),
            ((2, 1), "mark", "item"), ((2, 1), "name", "g"), ((2, 3), "sign", "="), ((2, 5), "name", "f"),
            ((2, 6), "mark", "shut")])

    def test_no_lexeme(self):
        for text in ([], [""], ["", "  -- none"]):
            self.assertEqual(laid(text), [((1, 1), "mark", "open"), ((1, 1), "mark", "shut")])

    def test_the_end_is_behind_the_last_lexeme(self):
        self.assertEqual(marks("f = xyz -- none", "", "   "), [((1, 1), "open"), ((1, 8), "shut")])
        self.assertEqual(marks("f", "  =="), [((1, 1), "open"), ((2, 5), "shut")])

    def test_rows_further_in_go_on(self):
        self.assertEqual(shown("f", " = 1", "   + 2", "g = 3"), "{ f = 1 + 2 ; g = 3 }")

    def test_the_column_of_the_first_lexeme(self):
        self.assertEqual(shown("", "   f = 1", "   g = 2", "    h"), "{ f = 1 ; g = 2 h }")

    def test_a_row_less_far_in_shuts_the_text(self):
        self.assertEqual(shown("  f = 1", " g = 2", "  h", " i"), "{ f = 1 } g = 2 h i")
        self.assertEqual(marks("  f = 1", " g = 2"), [((1, 3), "open"), ((2, 2), "shut")])
        self.assertEqual(shown("  f", "g let x", "h"), "{ f } g let { x } h")

    def test_a_remark_begins_no_row(self):
        self.assertEqual(shown("f = 1", "-- g", "  + 2"), "{ f = 1 + 2 }")

    def test_only_a_rows_first_lexeme_counts(self):
        self.assertEqual(shown("f g", "  h i"), "{ f g h i }")


class Blocks(unittest.TestCase):
    def test_on_the_same_row(self):
        self.assertEqual(shown("f = let x = 1 in x"), "{ f = let { x = 1 } in x }")
        self.assertEqual(marks("f = let x = 1 in x"),
                         [((1, 1), "open"), ((1, 9), "open"), ((1, 15), "shut"), ((1, 19), "shut")])

    def test_on_the_next_row(self):
        self.assertEqual(shown("f = let", "  x = 1", "  y = 2", "  in x"), "{ f = let { x = 1 ; y = 2 } in x }")
        self.assertEqual(shown("f = case x of", "  A -> 1", "  B -> 2", "g = 1"),
                         "{ f = case x of { A -> 1 ; B -> 2 } ; g = 1 }")

    def test_of_opens_on_the_same_row(self):
        self.assertEqual(shown("f = case x of A -> 1", "              B -> 2"),
                         "{ f = case x of { A -> 1 ; B -> 2 } }")

    def test_columns_greater_the_same_and_less(self):
        text = ["f = case x of", "     A -> 1"]
        self.assertEqual(shown(*text, "       B"), "{ f = case x of { A -> 1 B } }")
        self.assertEqual(shown(*text, "     B"), "{ f = case x of { A -> 1 ; B } }")
        self.assertEqual(shown(*text, "    B"), "{ f = case x of { A -> 1 } B }")
        self.assertEqual(shown(*text, "B"), "{ f = case x of { A -> 1 } ; B }")
        self.assertEqual(marks(*text, "B")[2:4], [((3, 1), "shut"), ((3, 1), "item")])

    def test_several_shut_at_once(self):
        self.assertEqual(shown("f = case a of", "  A -> case b of", "    B -> 1", "g"),
                         "{ f = case a of { A -> case b of { B -> 1 } } ; g }")
        self.assertEqual(shown("f = case a of", "  A -> case b of", "    B -> 1", "  C"),
                         "{ f = case a of { A -> case b of { B -> 1 } ; C } }")

    def test_not_opened_at_the_same_column(self):
        self.assertEqual(shown("f = let", "g = 1"), "{ f = let { } ; g = 1 }")
        self.assertEqual(marks("f = let", "g = 1"),
                         [((1, 1), "open"), ((2, 1), "open"), ((2, 1), "shut"), ((2, 1), "item"),
                          ((2, 6), "shut")])

    def test_not_opened_at_a_lesser_column(self):
        self.assertEqual(shown("f = case a of", "   A -> case b of", "  B -> 1"),
                         "{ f = case a of { A -> case b of { } } B -> 1 }")
        self.assertEqual(shown("f = case a of", "   A -> let", "g = 1"),
                         "{ f = case a of { A -> let { } } ; g = 1 }")

    def test_not_opened_in_a_bracket(self):
        self.assertEqual(shown("f = (let", "x = 1"), "{ f = ( let { } x = 1 }")
        self.assertEqual(shown("f = let x = (case y of", "        z"), "{ f = let { x = ( case y of { } z } }")

    def test_opened_when_none_is_open(self):
        self.assertEqual(shown("   f", " let", "x"), "{ f } let { x }")

    def test_the_lexeme_behind_may_be_any(self):
        self.assertEqual(shown("f = let let x"), "{ f = let { let { x } } }")
        self.assertEqual(shown("f of of of"), "{ f of { of { of } } }")
        self.assertEqual(shown("f = let in x"), "{ f = let { } in x }")
        self.assertEqual(shown("f = (let )"), "{ f = ( let { } ) }")
        self.assertEqual(shown("of"), "{ of }")

    def test_behind_a_remark(self):
        self.assertEqual(shown("f = let -- x", "  -- y", "  z"), "{ f = let { z } }")

    def test_at_the_end(self):
        self.assertEqual(shown("f = let"), "{ f = let }")
        self.assertEqual(marks("f = case x of"), [((1, 1), "open"), ((1, 14), "shut")])
        self.assertEqual(marks("f = let x", "", "  "),
                         [((1, 1), "open"), ((1, 9), "open"), ((1, 10), "shut"), ((1, 10), "shut")])

    def test_an_opening_row_shuts_nothing_and_is_no_item(self):
        self.assertEqual(shown("f = let x = case y of", "        z"),
                         "{ f = let { x = case y of { } ; z } }")
        self.assertEqual(shown("f = let x = case y of", "         z"),
                         "{ f = let { x = case y of { z } } }")


class RowsThatAreNoItems(unittest.TestCase):
    def test_in_the_column_of_a_block(self):
        for word in ("in", "then", "else", "of", ")", "|"):
            self.assertEqual(shown("f", word), "{ f " + word + " }")

    def test_others_are(self):
        for word in ("data", "let", "if", "case", "fun", "=", "->", "(", "+", "*", "<", "==", "_", "a", "B", "1"):
            self.assertEqual(shown("f", word), "{ f ; " + word + " }")

    def test_they_shut_blocks_all_the_same(self):
        text = ["f = case a of", "  A -> case b of", "    B -> 1"]
        for word in ("then", "else", "of", ")", "|"):
            self.assertEqual(shown(*text, "  " + word),
                             "{ f = case a of { A -> case b of { B -> 1 } " + word + " } }")


class In(unittest.TestCase):
    def test_shuts_all_within_its_lets_block(self):
        self.assertEqual(shown("f = let x = case y of A -> 1 in x"), "{ f = let { x = case y of { A -> 1 } } in x }")

    def test_shut_by_its_column(self):
        self.assertEqual(shown("f = let", "      x = 1", "  in x"), "{ f = let { x = 1 } in x }")
        self.assertEqual(marks("f = let", "      x = 1", "  in x")[2], ((3, 3), "shut"))

    def test_in_a_bracket(self):
        self.assertEqual(shown("f = (let x = 1 in x)"), "{ f = ( let { x = 1 } in x ) }")
        self.assertEqual(shown("f = (let", "  x = 1", "  in x)"), "{ f = ( let { x = 1 } in x ) }")

    def test_for_a_let_out_of_its_bracket(self):
        self.assertEqual(shown("f = let x = (1 in 2) in 3"), "{ f = let { x = ( 1 in 2 ) in 3 } }")
        self.assertEqual(shown("f = let x = (1 in 2)", "  in 3"), "{ f = let { x = ( 1 in 2 ) } in 3 }")

    def test_a_let_in_a_closed_bracket_has_it(self):
        self.assertEqual(shown("f = let x = (let y = 1) in 2 in 3"),
                         "{ f = let { x = ( let { y = 1 } ) in 2 } in 3 }")

    def test_two_lets_with_one(self):
        self.assertEqual(shown("f = let x = let y = 1 in x"), "{ f = let { x = let { y = 1 } in x } }")
        self.assertEqual(shown("f = let x = let y = 1 in x in y"),
                         "{ f = let { x = let { y = 1 } in x } in y }")

    def test_a_let_whose_block_was_not_opened_has_it(self):
        self.assertEqual(shown("f = let x = let", "        y in 1 in 2"),
                         "{ f = let { x = let { } ; y in 1 } in 2 }")

    def test_without_a_let(self):
        self.assertEqual(shown("f = case x of A in 1"), "{ f = case x of { A in 1 } }")

    def test_a_let_whose_block_its_column_shut_has_it(self):
        self.assertEqual(shown("f = let x = let", "              y = 1", "        z in 1 in 2"),
                         "{ f = let { x = let { y = 1 } ; z in 1 } in 2 }")

    def test_not_past_a_bracket(self):
        self.assertEqual(shown("f = let x = (case y of A in B) in 1"),
                         "{ f = let { x = ( case y of { A in B } ) in 1 } }")


class Brackets(unittest.TestCase):
    def test_shut_the_blocks_within(self):
        self.assertEqual(shown("f = (case x of A -> case y of B -> 1) + 2"),
                         "{ f = ( case x of { A -> case y of { B -> 1 } } ) + 2 }")
        self.assertEqual(shown("f = (case x of A -> (1) + 2) + 3"), "{ f = ( case x of { A -> ( 1 ) + 2 } ) + 3 }")

    def test_with_none_open(self):
        self.assertEqual(shown("f = case x of A) -> 1)"), "{ f = case x of { A ) -> 1 ) } }")
        self.assertEqual(shown(")"), "{ ) }")
        self.assertEqual(shown("f (a))", "g"), "{ f ( a ) ) ; g }")

    def test_rows_in_a_bracket_are_not_lined_up_with_blocks_around(self):
        self.assertEqual(shown("  f = (1", "  + 2", "+ 3)", "  g"), "{ f = ( 1 + 2 + 3 ) ; g }")

    def test_but_with_those_within(self):
        self.assertEqual(shown("f = (case x of", "   A -> 1", "   B -> 2", "+ 3", ")", "g"),
                         "{ f = ( case x of { A -> 1 ; B -> 2 } + 3 ) ; g }")

    def test_a_bracket_that_is_never_closed(self):
        self.assertEqual(shown("f = (1", "g = 2", "h"), "{ f = ( 1 g = 2 h }")
        self.assertEqual(shown("f = (let x = (1", "y"), "{ f = ( let { x = ( 1 y } }")

    def test_a_row_that_begins_with_the_closing_one(self):
        self.assertEqual(shown("f = (let x = 1", "     in x", ")", "g"), "{ f = ( let { x = 1 } in x ) ; g }")


class Refused(unittest.TestCase):
    def test_as_lexemes(self):
        self.assertEqual(refusal(self, NoSign, laid, ["f = let 01"]).place, (1, 10))
        self.assertEqual(refusal(self, NoSign, laid, ["in of )", "  a >"]).place, (2, 5))


class SetBesideASlowOne(unittest.TestCase):
    def test_rows_of_any_words(self):
        chance = random.Random(6)
        for _ in range(4000):
            words = chance.choice([LEXEME_WORDS, ("let", "in", "(", ")", "of", "name"), ("let", "of", "name", "then")])
            text = []
            for _ in range(chance.randrange(7)):
                row = [chance.choice(SPELT.get(word, [word])) for word in chance.choices(words, k=chance.randrange(7))]
                text.append(" " * chance.randrange(9) + " ".join(row))
            self.assertEqual(laid(text), slow_laid(lexemes(text)), text)


if __name__ == "__main__":
    unittest.main()
