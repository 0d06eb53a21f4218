"""The trees of texts once more, read by calls within calls, of the tests' own marks; refusals by Earley's walk."""

from tests.helper import grammar_word, slow_laid, walked


class Reader:
    """Reads lexemes and marks that the grammar takes; of others nothing is promised."""

    def __init__(self, told):
        self.told = told
        self.at = 0

    def next(self):
        return grammar_word(self.told[self.at]) if self.at < len(self.told) else "end"

    def take(self, word=None):
        assert word is None or self.next() == word, (word, self.next())
        self.at += 1
        return self.told[self.at - 1]

    def block(self, read):
        self.take("open")
        told = [read()]
        while self.next() == "item":
            self.take()
            told.append(read())
        self.take("shut")
        return told

    def text(self):
        return joined(self.block(lambda: self.data() if self.next() == "data" else self.equation()))

    def data(self):
        place, maker = self.take()[0], self.take("maker")[2]
        letters = []
        while self.next() == "name":
            letters.append(self.take()[::2])
        made = []
        while self.next() in ("=", "|"):
            self.take()
            head = self.take("maker")
            made.append((head[0], head[2], self.many(("name", "maker", "("), self.kindleaf)))
        return ("data", place, maker, tuple(letters), tuple(made))

    def many(self, words, read):
        told = []
        while self.next() in words:
            told.append(read())
        return tuple(told)

    def kindleaf(self):
        place, sort, word = self.take()
        if word == "(":
            told = self.kind()
            self.take(")")
            return told
        return ("letter", place, word) if sort == "name" else ("kind", place, word, ())

    def kind(self):
        one = self.kindleaf()
        if one[0] == "kind" and not one[3] and self.told[self.at - 1][1] == "maker":
            one = (*one[:3], self.many(("name", "maker", "("), self.kindleaf))
        if self.next() == "->":
            return ("to", self.take()[0], one, self.kind())
        return one

    def equation(self):
        place, _, name = self.take("name")
        patterns = self.many(("name", "_", "number", "maker", "("), self.leaf)
        return ("equation", place, name, patterns, self.sides("="))

    def sides(self, sign):
        if self.next() == sign:
            self.take()
            return ((None, self.expr()),)
        told = []
        while self.next() == "|":
            self.take()
            guard = self.expr()
            self.take(sign)
            told.append((guard, self.expr()))
        return tuple(told)

    def leaf(self):
        place, sort, word = self.take()
        if word == "(":
            told = self.pattern()
            self.take(")")
            return told
        return {"name": ("bind", place, word), "maker": ("made", place, word, ()), "sign": ("any", place)}.get(sort) \
            or ("num", place, int(word))

    def pattern(self):
        if self.next() == "maker":
            place, _, maker = self.take()
            return ("made", place, maker, self.many(("name", "_", "number", "maker", "("), self.leaf))
        return self.leaf()

    def choice(self):
        place = self.told[self.at][0]
        return (place, self.pattern(), self.sides("->"))

    def expr(self):
        place, _, word = self.told[self.at]
        if word not in ("fun", "let", "if", "case"):
            one = self.sum()
            if self.next() in ("<", "=="):
                sign = self.take()
                one = ("op", sign[0], sign[2], one, self.sum())
            return one
        self.take()
        if word == "fun":
            names = self.many(("name",), lambda: self.take()[::2])
            self.take("->")
            return ("fun", place, names, self.expr())
        if word == "let":
            defs = joined(self.block(self.equation))
            self.take("in")
            return ("let", place, defs, self.expr())
        asked = self.expr()
        if word == "case":
            self.take("of")
            return ("case", place, asked, tuple(self.block(self.choice)))
        self.take("then")
        one = self.expr()
        self.take("else")
        return ("if", place, asked, one, self.expr())

    def ops(self, signs, read):
        told = read()
        while self.next() in signs:
            place, _, sign = self.take()
            told = ("op", place, sign, told, read())
        return told

    def sum(self):
        return self.ops(("+", "-"), lambda: self.ops(("*",), self.call))

    def call(self):
        place = self.told[self.at][0]
        parts = self.many(("name", "maker", "number", "("), self.atom)
        return ("call", place, parts[0], parts[1:]) if len(parts) > 1 else parts[0]

    def atom(self):
        place, sort, word = self.take()
        if word == "(":
            told = self.expr()
            self.take(")")
            return told
        return ("num", place, int(word)) if sort == "number" else (sort, place, word)


def joined(lines):
    told = []
    for line in lines:
        if line[0] == "equation" and told and told[-1][0] == "def" and told[-1][2] == line[2]:
            told[-1] = (*told[-1][:3], (*told[-1][3], (line[1], *line[3:])))
        else:
            told.append(line if line[0] == "data" else ("def", line[1], line[2], ((line[1], *line[3:]),)))
    return tuple(told)


def second_reading(found):
    """Tells of a text's lexemes ("tree", its tree), or ("refused", place, wants)."""
    told = slow_laid(found)
    refused = walked(told)
    if refused is None:
        return "tree", Reader(told).text()
    place, wants = refused
    if place == "end":
        (row, column), _, word = found[-1]
        place = (row, column + len(word))
    return "refused", place, wants
