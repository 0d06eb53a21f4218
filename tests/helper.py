"""What the tests share: refusals caught, the grammar gone by on its own, marks told anew, texts made at random.

Nothing here takes anything from the program: grammar and marks are written from the document once more,
in another way than the program's, so that the two can be set beside one another.
"""

GRAMMAR = """
whole: text end
text: open lines shut
lines: line
lines: lines item line
line: data maker = mades
line: data maker names = mades
line: equation
names: name
names: names name
mades: made
mades: mades | made
made: maker
made: maker kindleafs
kindleafs: kindleaf
kindleafs: kindleafs kindleaf
kind: kindcall
kind: kindcall -> kind
kindcall: maker
kindcall: maker kindleafs
kindcall: name
kindcall: ( kind )
kindleaf: name
kindleaf: maker
kindleaf: ( kind )
equation: name sides
equation: name leafs sides
leafs: leaf
leafs: leafs leaf
sides: = expr
sides: guards
guards: | expr = expr
guards: guards | expr = expr
leaf: name
leaf: _
leaf: number
leaf: maker
leaf: ( pattern )
pattern: maker
pattern: maker leafs
pattern: name
pattern: _
pattern: number
pattern: ( pattern )
expr: fun names -> expr
expr: let open equations shut in expr
expr: if expr then expr else expr
expr: case expr of open choices shut
expr: sum
expr: sum < sum
expr: sum == sum
equations: equation
equations: equations item equation
choices: choice
choices: choices item choice
sum: product
sum: sum + product
sum: sum - product
product: call
product: product * call
call: atom
call: call atom
atom: name
atom: maker
atom: number
atom: ( expr )
choice: pattern -> expr
choice: pattern choiceguards
choiceguards: | expr -> expr
choiceguards: choiceguards | expr -> expr
"""

LEXEME_WORDS = (
    "data let in if then else case of fun = | -> ( ) + - * < == _ name maker number".split()
)


def productions():
    told = {}
    for row in GRAMMAR.strip().split("\n"):
        left, right = row.split(":", 1)
        told.setdefault(left, []).append(tuple(right.split()))
    return told


PRODUCTIONS = productions()


class Walk:
    """Goes by the grammar one lexeme behind the other, keeping all ways to read at once (Earley's way)."""

    def __init__(self):
        self.ways = []
        self.enter({("whole", right, 0, 0) for right in PRODUCTIONS["whole"]})

    def enter(self, ways):
        here = len(self.ways)
        self.ways.append(ways)
        todo = list(ways)
        while todo:
            left, right, at, begin = todo.pop()
            if at == len(right):
                found = [(one, two, spot + 1, first) for one, two, spot, first in self.ways[begin]
                         if spot < len(two) and two[spot] == left]
            else:
                found = [(right[at], other, 0, here) for other in PRODUCTIONS.get(right[at], [])]
            for way in found:
                if way not in ways:
                    ways.add(way)
                    todo.append(way)

    def wants(self):
        ahead = {right[at] for _, right, at, _ in self.ways[-1] if at < len(right)}
        return sorted(word for word in ahead if word not in PRODUCTIONS)

    def go_on(self, word):
        self.enter({(left, right, at + 1, begin) for left, right, at, begin in self.ways[-1]
                    if at < len(right) and right[at] == word})


def grammar_word(lexeme):
    return lexeme[1] if lexeme[1] in ("name", "maker", "number") else lexeme[2]


def walked(told):
    """Tells (place, wants) of the first of laid's lexemes and marks with which the grammar goes on no more."""
    walk = Walk()
    for lexeme in told:
        wants = walk.wants()
        if grammar_word(lexeme) not in wants:
            return (lexeme[0], wants)
        walk.go_on(grammar_word(lexeme))
    wants = walk.wants()
    return None if "end" in wants else ("end", wants)


def slow_laid(told):
    """Tells the lexemes with their marks, by one pile of blocks [column, let's place] and brackets "("."""
    out, pile, lets = [], [], []
    end = (1, 1)
    if told:
        (row, column), _, word = told[-1]
        end = (row, column + len(word))

    def innermost():
        return max([spot for spot, thing in enumerate(pile) if thing != "("], default=None)

    def put(place, word):
        out.append((place, "mark", word))

    for number, lexeme in enumerate(told):
        place, _, word = lexeme
        opened = False
        if number == 0 or told[number - 1][2] in ("let", "of"):
            put(place, "open")
            if place[1] > (0 if innermost() is None else pile[innermost()][0]):
                pile.append([place[1], told[number - 1][0] if number and told[number - 1][2] == "let" else None])
                opened = True
            else:
                put(place, "shut")
        if not opened and (number == 0 or told[number - 1][0][0] != place[0]):
            while pile and pile[-1] != "(" and pile[-1][0] > place[1]:
                put(place, "shut")
                pile.pop()
            if pile and pile[-1] != "(" and pile[-1][0] == place[1]:
                if word not in ("in", "then", "else", "of", ")", "|"):
                    put(place, "item")
        if word == "let":
            lets.append(place)
        if word == "in" and lets:
            let = lets.pop()
            spots = [spot for spot, thing in enumerate(pile) if thing != "(" and thing[1] == let]
            if spots and "(" not in pile[spots[0]:]:
                out.extend([(place, "mark", "shut")] * (len(pile) - spots[0]))
                del pile[spots[0]:]
        if word == "(":
            pile.append("(")
        if word == ")" and "(" in pile:
            while pile[-1] != "(":
                put(place, "shut")
                pile.pop()
            pile.pop()
        out.append(lexeme)
    if not told:
        out.extend([(end, "mark", "open"), (end, "mark", "shut")])
    out.extend([(end, "mark", "shut") for thing in pile if thing != "("])
    return out


def least_heights():
    heights = {}
    while len(heights) < len(PRODUCTIONS):
        for left, rights in PRODUCTIONS.items():
            known = [right for right in rights
                     if all(word in heights or word not in PRODUCTIONS for word in right)]
            if known and left not in heights:
                heights[left] = 1 + min(max(heights.get(word, 0) for word in right) for right in known)
    return heights


HEIGHTS = least_heights()


def sentence(chance, symbol, depth):
    """Tells a row of words, made at random, that the grammar takes as a symbol."""
    if symbol not in PRODUCTIONS:
        return [symbol]
    rights = PRODUCTIONS[symbol]
    if depth <= 0:
        rights = [right for right in rights
                  if max(HEIGHTS.get(word, 0) for word in right) < HEIGHTS[symbol]]
    told = []
    for word in chance.choice(rights):
        told.extend(sentence(chance, word, depth - 1))
    return told


SPELT = {
    "name": ["a", "x", "longname", "inner", "datum", "end", "item"],
    "maker": ["A", "Cons", "Longword"],
    "number": ["0", "7", "120", "123456789012345678901234567890"],
}


class Setter:
    """Sets a sentence's words in rows, at random, so that its marks stand just where the sentence has them."""

    def __init__(self, chance):
        self.chance = chance
        self.rows = [""]
        # Columns of open blocks, and "(" for brackets.
        self.pile = []

    def column(self):
        return len(self.rows[-1]) + 1

    def begin_row(self, column):
        self.rows.append(" " * (column - 1))

    def set_words(self, words):
        marks = []
        for word in words:
            if word in ("open", "item", "shut"):
                marks.append(word)
            else:
                self.set_word(word, marks)
                marks = []
        return self.rows

    def set_word(self, word, marks):
        outermost = None
        for mark in marks:
            if mark == "shut":
                outermost = self.pile.pop()
        if marks[-1:] == ["open"]:
            self.find_block_column()
        elif marks[-1:] == ["item"]:
            self.begin_row(self.pile[-1])
        elif outermost is not None and word not in ("in", ")"):
            self.begin_row(self.chance.randrange(self.least(word), outermost))
        elif self.column() > 70 or self.chance.random() < 0.15:
            self.begin_row(self.least(word) + self.chance.randrange(4))
        else:
            self.rows[-1] += " "
        if marks[-1:] == ["open"]:
            self.pile.append(self.column())
        if word == "(":
            self.pile.append("(")
        if word == ")":
            self.pile.pop()
        self.rows[-1] += self.chance.choice(SPELT.get(word, [word]))
        self.set_space(word)

    def set_space(self, word):
        if self.chance.random() < 0.05:
            self.rows[-1] += "   "
        if self.chance.random() < 0.05:
            # Straight behind - a remark would swallow it.
            self.rows[-1] += " " * (word == "-") + self.chance.choice(["--", " -- 1in let ("])
            self.begin_row(self.least("in") + 1)

    def least(self, word):
        """Tells the least column at which a row may begin with a word, so that no mark comes of it."""
        if not self.pile or self.pile[-1] == "(":
            return 1
        return self.pile[-1] + (word not in ("in", "then", "else", "of", ")", "|"))

    def find_block_column(self):
        # Two columns more than the block around leave room for a row that ends the block without an item.
        around = max([thing for thing in self.pile if thing != "("], default=-1)
        if self.column() > 60 or self.column() < around + 2 or self.chance.random() < 0.6:
            self.begin_row(around + 2 + self.chance.randrange(3))
        else:
            self.rows[-1] += " "


def refusal(test, kind, function, *told):
    """Calls a function that has to refuse with just that class, and tells the refusal."""
    try:
        function(*told)
    except kind as error:
        test.assertIs(error.__class__, kind)
        return error
    test.fail("not refused: " + repr(told)[:500])
