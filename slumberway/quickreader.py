"""A text read by calls within calls, where nothing in it is odd; of others no more than that something is.

Whoever reads a thing is at its first lexeme or mark, and leaves the reader behind its last one. What is odd, a text
that the grammar doesn't take or one whose parts stand too deep, is read by the grammar's table.
"""

from slumberway.building import joined

DEEPEST = 60
PLAIN_SORTS = {"word": True, "sign": True, "mark": True}
ADDING = ("+", "-")
COMPARING = ("<", "==")


class OddText(Exception):
    """Something for which a text is to be read more closely."""


class QuickReader:
    """A text's lexemes and marks, and how far they were read."""

    __slots__ = ("told", "words", "at", "deep")

    def __init__(self, told):
        self.told = told
        # Of each the word by which the grammar goes: of names, makers and numbers the sort.
        self.words = [word if sort in PLAIN_SORTS else sort for _, sort, word in told]
        self.words.append("end")
        self.at = 0
        self.deep = 0

    def pass_by(self, key):
        """Go on behind a lexeme or mark that has to stand here."""
        if self.words[self.at] != key:
            raise OddText()
        self.at += 1

    def taken(self, key):
        """Tell the place and word of a lexeme that has to stand here, and go on behind it."""
        if self.words[self.at] != key:
            raise OddText()
        place, _, word = self.told[self.at]
        self.at += 1
        return (place, word)

    def tree(self):
        """Tell the tree of the whole text."""
        self.pass_by("open")
        lines = [self.line()]
        while self.words[self.at] == "item":
            self.at += 1
            lines.append(self.line())
        self.pass_by("shut")
        self.pass_by("end")
        return joined(lines)

    def line(self):
        return self.data_line() if self.words[self.at] == "data" else self.equation()

    def data_line(self):
        place, _ = self.taken("data")
        _, maker = self.taken("maker")
        letters = []
        while self.words[self.at] == "name":
            letters.append(self.taken("name"))
        self.pass_by("=")
        mades = [self.made()]
        while self.words[self.at] == "|":
            self.at += 1
            mades.append(self.made())
        return ("data", place, maker, tuple(letters), tuple(mades))

    def made(self):
        place, maker = self.taken("maker")
        return (place, maker, self.leaf_kinds())

    def leaf_kinds(self):
        """Tell the tuple of all kinds that go on here as leaves."""
        told = []
        while True:
            key = self.words[self.at]
            if key == "name":
                told.append(("letter", *self.taken("name")))
            elif key == "maker":
                told.append(("kind", *self.taken("maker"), ()))
            elif key == "(":
                told.append(self.bracketed_kind())
            else:
                return tuple(told)

    def bracketed_kind(self):
        self.pass_by("(")
        told = self.kind()
        self.pass_by(")")
        return told

    def kind(self):
        self.go_deeper()
        key = self.words[self.at]
        if key == "maker":
            told = ("kind", *self.taken("maker"), self.leaf_kinds())
        elif key == "(":
            told = self.bracketed_kind()
        else:
            told = ("letter", *self.taken("name"))
        if self.words[self.at] == "->":
            place, _ = self.taken("->")
            told = ("to", place, told, self.kind())
        self.deep -= 1
        return told

    def go_deeper(self):
        self.deep += 1
        if self.deep > DEEPEST:
            raise OddText()

    def equation(self):
        place, name = self.taken("name")
        patterns = self.leaves()
        return ("equation", place, name, patterns, self.sides("="))

    def leaves(self):
        """Tell the tuple of all patterns that go on here as leaves."""
        told = []
        while self.words[self.at] in LEAVES:
            told.append(self.leaf())
        return tuple(told)

    def leaf(self):
        """Tell a pattern; a maker has no parts here."""
        place, sort, word = self.told[self.at]
        self.at += 1
        if sort == "name":
            return ("bind", place, word)
        if sort == "number":
            return ("num", place, int(word))
        if sort == "maker":
            return ("made", place, word, ())
        if word == "_":
            return ("any", place)
        if word != "(":
            raise OddText()
        told = self.pattern()
        self.pass_by(")")
        return told

    def pattern(self):
        if self.words[self.at] != "maker":
            if self.words[self.at] not in LEAVES:
                raise OddText()
            self.go_deeper()
            told = self.leaf()
            self.deep -= 1
            return told
        self.go_deeper()
        place, maker = self.taken("maker")
        told = ("made", place, maker, self.leaves())
        self.deep -= 1
        return told

    def sides(self, sign):
        """Tell the sides of an equation, or of a choice, behind its patterns."""
        if self.words[self.at] == sign:
            self.at += 1
            return ((None, self.expr()),)
        told = []
        while not told or self.words[self.at] == "|":
            self.pass_by("|")
            guard = self.expr()
            self.pass_by(sign)
            told.append((guard, self.expr()))
        return tuple(told)

    def expr(self):
        key = self.words[self.at]
        self.go_deeper()
        if key in EXPRS:
            expr_of = EXPRS[key]
            told = expr_of(self)
        else:
            told = self.added()
            if self.words[self.at] in COMPARING:
                place, _, sign = self.told[self.at]
                self.at += 1
                told = ("op", place, sign, told, self.added())
        self.deep -= 1
        return told

    def added(self):
        told = self.multiplied()
        while self.words[self.at] in ADDING:
            place, _, sign = self.told[self.at]
            self.at += 1
            told = ("op", place, sign, told, self.multiplied())
        return told

    def multiplied(self):
        told = self.call()
        while self.words[self.at] == "*":
            place, _, sign = self.told[self.at]
            self.at += 1
            told = ("op", place, sign, told, self.call())
        return told

    def call(self):
        place = self.told[self.at][0] if self.words[self.at] in ATOMS else None
        atoms = []
        while True:
            key = self.words[self.at]
            if key not in ATOMS:
                break
            at, sort, word = self.told[self.at]
            self.at += 1
            if key == "(":
                atoms.append(self.expr())
                self.pass_by(")")
            else:
                atoms.append((sort, at, word) if key != "number" else ("num", at, int(word)))
        if not atoms:
            raise OddText()
        return ("call", place, atoms[0], tuple(atoms[1:])) if len(atoms) > 1 else atoms[0]


def fun_expr(reader):
    place, _ = reader.taken("fun")
    names = [reader.taken("name")]
    while reader.words[reader.at] == "name":
        names.append(reader.taken("name"))
    reader.pass_by("->")
    return ("fun", place, tuple(names), reader.expr())


def let_expr(reader):
    place, _ = reader.taken("let")
    reader.pass_by("open")
    lines = [reader.equation()]
    while reader.words[reader.at] == "item":
        reader.at += 1
        lines.append(reader.equation())
    reader.pass_by("shut")
    reader.pass_by("in")
    return ("let", place, joined(lines), reader.expr())


def if_expr(reader):
    place, _ = reader.taken("if")
    asked = reader.expr()
    reader.pass_by("then")
    one = reader.expr()
    reader.pass_by("else")
    return ("if", place, asked, one, reader.expr())


def case_expr(reader):
    place, _ = reader.taken("case")
    asked = reader.expr()
    reader.pass_by("of")
    reader.pass_by("open")
    choices = [choice(reader)]
    while reader.words[reader.at] == "item":
        reader.at += 1
        choices.append(choice(reader))
    reader.pass_by("shut")
    return ("case", place, asked, tuple(choices))


def choice(reader):
    place = reader.told[reader.at][0] if reader.words[reader.at] != "end" else None
    pattern = reader.pattern()
    return (place, pattern, reader.sides("->"))


ATOMS = {"name": True, "maker": True, "number": True, "(": True}
LEAVES = {"name": True, "maker": True, "number": True, "(": True, "_": True}
EXPRS = {"fun": fun_expr, "let": let_expr, "if": if_expr, "case": case_expr}
