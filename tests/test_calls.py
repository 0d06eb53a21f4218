import inspect
import unittest

from slumberway import lexemes as lexemes_file
from slumberway import reader as reader_file
from slumberway.errors import NoReading, NoSign
from slumberway.lexemes import laid, lexemes
from slumberway.reader import tree_of
from tests.helper import refusal

TEXT = ("data L a = Nil | Cons a (L a)", "f Nil = 0", "f (Cons _ xs) = 1 + f xs",
        "g = let x = 1", "        y = 2 in (case x of", "  1 -> fun a -> a", "  _ | x < y -> f) x")


class Lists(unittest.TestCase):
    def test_what_is_handed_in_stays(self):
        for function in (lexemes, laid, tree_of):
            for text in (list(TEXT), ["f = 01"], ["f ="], []):
                before = list(text)
                try:
                    function(text)
                except (NoReading, NoSign):
                    pass
                self.assertEqual(text, before)

    def test_what_the_asker_does_to_a_text_behind_the_call_changes_nothing(self):
        for function in (lexemes, laid, tree_of):
            right = function(list(TEXT))
            text = list(TEXT)
            told = function(text)
            text[0] = "data M = N"
            text.append("h = 1")
            del text[1]
            self.assertEqual(told, right)

    def test_what_is_told_is_the_askers_own(self):
        for function in (lexemes, laid):
            right = function(list(TEXT))
            told = function(list(TEXT))
            self.assertIsNot(told, function(list(TEXT)))
            told.clear()
            self.assertEqual(function(list(TEXT)), right)

    def test_wants_are_the_askers_own(self):
        for text in ([], ["f"], ["f ="], ["f = (a"], ["f = case x of A"], ["f = let x = 1"]):
            right = list(refusal(self, NoReading, tree_of, text).wants)
            told = refusal(self, NoReading, tree_of, text)
            told.wants.append("more")
            told.wants.reverse()
            self.assertEqual(refusal(self, NoReading, tree_of, text).wants, right)

    def test_kinds_of_what_is_told(self):
        self.assertIs(lexemes(list(TEXT)).__class__, list)
        self.assertIs(laid(list(TEXT)).__class__, list)
        self.assertIs(refusal(self, NoReading, tree_of, []).wants.__class__, list)
        todo = [tree_of(list(TEXT)), *lexemes(list(TEXT)), *laid(list(TEXT))]
        while todo:
            thing = todo.pop()
            self.assertIn(thing.__class__, (tuple, str, int, None.__class__))
            if isinstance(thing, tuple):
                todo.extend(thing)


class Again(unittest.TestCase):
    def test_asked_again_it_tells_the_same(self):
        for function in (lexemes, laid, tree_of):
            text = list(TEXT)
            self.assertEqual(function(text), function(text))
            self.assertEqual(function(text), function(list(TEXT)))

    def test_behind_a_refusal_too(self):
        for bad in (["f = 01"], ["f = let x = ("], [")", " in", "of"]):
            for function in (lexemes, laid, tree_of):
                right = function(list(TEXT))
                told = []
                for _ in range(2):
                    try:
                        told.append(function(bad))
                    except (NoReading, NoSign) as error:
                        told.append((error.__class__, vars(error)))
                self.assertEqual(told[0], told[1])
                self.assertEqual(function(list(TEXT)), right)


class Interface(unittest.TestCase):
    def test_arguments_by_their_places_and_names(self):
        for function in (lexemes, laid, tree_of):
            self.assertEqual(function(text=list(TEXT)), function(list(TEXT)))
            self.assertEqual(str(inspect.signature(function)), "(text)")
        self.assertRaises(NoSign, lexemes, text=["01"])
        self.assertRaises(NoSign, laid, text=["01"])
        self.assertRaises(NoReading, tree_of, text=["f"])

    def test_each_function_is_defined_in_its_file(self):
        for file, name in ((lexemes_file, "lexemes"), (lexemes_file, "laid"), (reader_file, "tree_of")):
            self.assertEqual(getattr(file, name).__module__, file.__name__)


if __name__ == "__main__":
    unittest.main()
