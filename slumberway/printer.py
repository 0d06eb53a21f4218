"""Trees told as texts, and two texts of the same lexemes led to one another."""

from slumberway.lexemes import laid

LOOSE = ("fun", "let", "if", "case")
COMPARING = ("<", "==")
ADDING = ("+", "-")
# Of each sign, what gets brackets at its left, and at its right: words of expressions, and signs of ops.
AT_LEFT = {
    "*": LOOSE + ADDING + COMPARING,
    "+": LOOSE + COMPARING,
    "-": LOOSE + COMPARING,
    "<": LOOSE + COMPARING,
    "==": LOOSE + COMPARING,
}
AT_RIGHT = {
    "*": LOOSE + ADDING + COMPARING + ("*",),
    "+": LOOSE + ADDING + COMPARING,
    "-": LOOSE + ADDING + COMPARING,
    "<": LOOSE + COMPARING,
    "==": LOOSE + COMPARING,
}
ITEM = ("mark", "item")
GUARD = ("mark", "guard")
OPEN = ("mark", "open")
SHUT = ("mark", "shut")


def printed(tree):
    """Tell the rows of a tree, whatever its places are."""
    page = Page()
    # What is still to come, the next one last: words, marks, and the tree's tuples.
    pile = list(reversed(tree))
    while pile:
        piece = pile.pop()
        if isinstance(piece, str):
            page.put(piece)
        elif piece[0] == "mark":
            page.mark(piece[1])
        else:
            pieces_of = PIECES[piece[0]]
            pile.extend(pieces_of(piece)[::-1])
    return page.rows


def bracketed(pieces):
    return ["(", *pieces, ")"]


def data_pieces(data):
    _, _, maker, letters, mades = data
    told = [ITEM, "data", maker, *[name for _, name in letters]]
    sign = "="
    for _, word, kinds in mades:
        told.extend([sign, word, *leaf_kinds(kinds)])
        sign = "|"
    return told


def leaf_kinds(kinds):
    """Tell the pieces of some kinds where each has to be a leaf."""
    told = []
    for kind in kinds:
        plain = kind[0] == "letter" or kind[0] == "kind" and not kind[3]
        told.extend([kind] if plain else bracketed([kind]))
    return told


def word_pieces(piece):
    return [piece[2]]


def kind_pieces(kind):
    return [kind[2], *leaf_kinds(kind[3])]


def to_pieces(kind):
    _, _, one, other = kind
    ahead = bracketed([one]) if one[0] == "to" else [one]
    return [*ahead, "->", other]


def def_pieces(one):
    _, _, name, equations = one
    told = []
    for _, patterns, sides in equations:
        told.extend([ITEM, name, *leaf_patterns(patterns), *side_pieces(sides, "=")])
    return told


def leaf_patterns(patterns):
    """Tell the pieces of some patterns where each has to be a leaf."""
    told = []
    for pattern in patterns:
        told.extend(bracketed([pattern]) if pattern[0] == "made" and pattern[3] else [pattern])
    return told


def side_pieces(sides, sign):
    told = []
    for guard, side in sides:
        if guard is not None:
            told.extend([GUARD, "|", guard])
        told.extend([sign, side])
    return told


def any_pieces(_):
    return ["_"]


def number_pieces(piece):
    return [str(piece[2])]


def made_pieces(pattern):
    return [pattern[2], *leaf_patterns(pattern[3])]


def call_pieces(e):
    told = []
    for part in (e[2], *e[3]):
        told.extend([part] if part[0] in ("name", "maker", "num") else bracketed([part]))
    return told


def op_pieces(e):
    _, _, sign, left, right = e
    return [*op_part(left, AT_LEFT[sign]), sign, *op_part(right, AT_RIGHT[sign])]


def op_part(e, in_brackets):
    word = e[2] if e[0] == "op" else e[0]
    return bracketed([e]) if word in in_brackets else [e]


def fun_pieces(e):
    return ["fun", *[name for _, name in e[2]], "->", e[3]]


def let_pieces(e):
    return ["let", OPEN, *e[2], SHUT, "in", e[3]]


def if_pieces(e):
    return ["if", e[2], "then", e[3], "else", e[4]]


def case_pieces(e):
    told = ["case", e[2], "of", OPEN]
    for _, pattern, sides in e[3]:
        told.extend([ITEM, pattern, *side_pieces(sides, "->")])
    return [*told, SHUT]


PIECES = {
    "data": data_pieces,
    "letter": word_pieces,
    "kind": kind_pieces,
    "to": to_pieces,
    "def": def_pieces,
    "any": any_pieces,
    "bind": word_pieces,
    "num": number_pieces,
    "made": made_pieces,
    "name": word_pieces,
    "maker": word_pieces,
    "call": call_pieces,
    "op": op_pieces,
    "fun": fun_pieces,
    "let": let_pieces,
    "if": if_pieces,
    "case": case_pieces,
}


class Page:
    """The rows of a text so far, and its open blocks."""

    def __init__(self):
        self.rows = []
        # How many blanks stand ahead in the last row, and whether its next word stands straight behind the last one.
        self.blanks = 0
        self.close_up = True
        # Of each open block, and of the outermost one of those that ended last, the blanks of its let's or of's row.
        self.blocks = []
        self.ended = None

    def begin_row(self, blanks):
        self.rows.append(" " * blanks)
        self.blanks = blanks
        self.close_up = True
        self.ended = None

    def put(self, word):
        """Add a word to the last row, or begin one with it, where a block ended ahead of it."""
        if self.ended is not None and word != ")":
            self.begin_row(self.ended + 2)
        self.ended = None
        if not self.close_up and word != ")":
            self.rows[-1] += " "
        self.rows[-1] += word
        self.close_up = word == "("

    def mark(self, word):
        """Begin an item or a guard, or open or shut a block."""
        if word == "open":
            self.blocks.append(self.blanks)
        elif word == "shut":
            self.ended = self.blocks.pop()
        else:
            blanks = self.blocks[-1] + 4 if self.blocks else 0
            self.begin_row(blanks if word == "item" else blanks + 2)


def led(one, other):
    """Tell a dict from the places of the one text's lexemes to the other's; None where they or their marks differ."""
    ours = laid(one)
    theirs = laid(other)
    if [lexeme[1:] for lexeme in ours] != [lexeme[1:] for lexeme in theirs]:
        return None
    return {mine[0]: yours[0] for mine, yours in zip(ours, theirs) if mine[1] != "mark"}
