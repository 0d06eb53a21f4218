"""A text read to its tree, by the grammar."""

from slumberway.building import BUILDERS
from slumberway.errors import NoReading
from slumberway.grammar import RULES, all_first_words
from slumberway.lexemes import end_place, laid

NAMED_BY_SORT = ("name", "maker", "number")


def tree_of(text):
    """Tell the tree of a text; NoSign as lexemes, NoReading where the grammar doesn't go on."""
    told = laid(text)
    reading = Reading()
    for lexeme in told:
        reading.take(lexeme)
    end = end_place([lexeme for lexeme in told if lexeme[1] != "mark"])
    reading.take((end, "mark", "end"))
    return reading.tree()


def grammar_word(lexeme):
    """Tell by which word the grammar goes by a lexeme or mark."""
    _, sort, word = lexeme
    return sort if sort in NAMED_BY_SORT else word


class Reading:
    """What of a text was read, and what is still to come.

    It keeps piles of its own, as a tree may be deeper than Python's calls may be.
    """

    def __init__(self):
        self.first_words = all_first_words()
        # Symbols still to come, the next one last: a text may lack those that are tuples, but not the others.
        # Tuples are "many" and "maybe" as in the grammar, and ("built", rule) behind all that a rule takes.
        self.coming = ["end", "text"]
        # Of each rule that is being read and has a builder, outermost first, its place and its parts so far.
        self.begun = [((1, 1), [])]

    def tree(self):
        """Tell the tree, when all of the text was taken."""
        _, parts = self.begun[0]
        return parts[0]

    def firsts(self, symbol):
        """Tell the words with which a symbol still to come may begin."""
        if isinstance(symbol, str):
            return self.first_words.get(symbol, [symbol])
        if symbol[0] == "built":
            return []
        return self.firsts(symbol[1])

    def may_come(self, word):
        """Tell whether a word may come next, before anything that the text may lack is given up."""
        for symbol in reversed(self.coming):
            if word in self.firsts(symbol):
                return True
            if isinstance(symbol, str):
                return False
        return False

    def wanted(self):
        """Tell all words that may come next, sorted."""
        told = []
        for symbol in reversed(self.coming):
            told.extend(self.firsts(symbol))
            if isinstance(symbol, str):
                break
        return sorted(set(told))

    def take(self, lexeme):
        """Read the next lexeme or mark."""
        place = lexeme[0]
        word = grammar_word(lexeme)
        if not self.may_come(word):
            raise NoReading(place, self.wanted())
        symbol = self.coming.pop()
        while symbol != word:
            self.go_into(symbol, word, place)
            symbol = self.coming.pop()
        self.begun[-1][1].append(lexeme)

    def go_into(self, symbol, word, place):
        """Lay out what a symbol stands for, where a word comes next."""
        if isinstance(symbol, str):
            self.begin(symbol, word, place)
        elif symbol[0] == "built":
            self.build(symbol[1])
        elif word in self.firsts(symbol):
            if symbol[0] == "many":
                self.coming.append(symbol)
            self.coming.extend(symbol[:0:-1])

    def begin(self, rule, word, place):
        """Begin a rule, with the alternative that begins with a word."""
        if rule in BUILDERS:
            self.begun.append((place, []))
            self.coming.append(("built", rule))
        for alternative in RULES[rule]:
            if word in self.firsts(alternative[0]):
                self.coming.extend(alternative[::-1])

    def build(self, rule):
        """Make one part of all that a rule took."""
        place, parts = self.begun.pop()
        builder = BUILDERS[rule]
        self.begun[-1][1].append(builder(place, parts))
