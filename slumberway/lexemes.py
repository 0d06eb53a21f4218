"""A text's lexemes, and the marks that its columns lay among them."""

from slumberway.errors import NoSign

SMALL = "abcdefghijklmnopqrstuvwxyz"
GREAT = "ABCDEFGHIJKLMNOPQRSTUVWXYZ"
FIGURES = "0123456789"
LONGEST = 8
REMARK = "--"
# The sorts of all words and signs, as they are written.
SORTS = {
    "data": "word", "let": "word", "in": "word", "if": "word", "then": "word", "else": "word", "case": "word",
    "of": "word", "fun": "word", "==": "sign", "->": "sign", "=": "sign", "|": "sign", "(": "sign", ")": "sign",
    "+": "sign", "-": "sign", "*": "sign", "<": "sign", "_": "sign",
}
LONG_SIGNS = ("==", "->")
BLOCK_WORDS = ("let", "of")
NEVER_ITEMS = ("in", "then", "else", "of", ")", "|")
# Words that lay marks, open or close something, or have a block opened behind them.
LAYING = {"let": True, "of": True, "in": True, "(": True, ")": True}


def lexemes(text):
    """Tell the list of (place, sort, word) of a text; NoSign where no lexeme goes on."""
    told = []
    # The sorts of all pieces so far that are one lexeme.
    sorts = dict(SORTS)
    for number, row in enumerate(text, start=1):
        # Wherever it stands, a lexeme could begin there.
        if REMARK in row:
            row = row[:row.find(REMARK)]
        column = 1
        for piece in row.split(" "):
            if piece in sorts:
                told.append(((number, column), sorts[piece], piece))
            elif piece:
                add_lexemes(told, number, column, piece, sorts)
            column += len(piece) + 1
    return told


def add_lexemes(told, number, column, piece, sorts):
    """Add the lexemes of what stands between two blanks."""
    end = column + len(piece)
    piece = piece.lstrip("(")
    while column + len(piece) < end:
        told.append(((number, column), "sign", "("))
        column += 1
    piece = piece.rstrip(")")
    if piece:
        sort = sorts.get(piece) or sort_of(piece)
        if sort is None:
            told.extend(mixed_lexemes(number, column, piece))
        else:
            sorts[piece] = sort
            told.append(((number, column), sort, piece))
        column += len(piece)
    while column < end:
        told.append(((number, column), "sign", ")"))
        column += 1


def mixed_lexemes(number, column, piece):
    """Tell the lexemes of what is not just one."""
    told = []
    at = 0
    while at < len(piece):
        sort, end = lexeme_at(number, column, piece, at)
        told.append(((number, column + at), sort, piece[at:end]))
        at = end
    return told


def sort_of(piece):
    """Tell the sort of a name, maker or number; None of what isn't one and no more."""
    if not piece.isascii():
        return None
    if piece.isalpha():
        if len(piece) > LONGEST:
            return None
        if piece.islower():
            return "name"
        return "maker" if piece.istitle() else None
    if piece.isdigit() and (piece[0] != "0" or piece == "0"):
        return "number"
    return None


def lexeme_at(number, column, piece, at):
    """Tell the sort of the lexeme that begins at a spot of a piece, and the spot behind it."""
    first = piece[at]
    if first in SMALL:
        end = run_end(piece, at + 1, SMALL, at + LONGEST)
        sort = SORTS.get(piece[at:end], "name")
    elif first in GREAT:
        end = run_end(piece, at + 1, SMALL, at + LONGEST)
        sort = "maker"
    elif first in FIGURES:
        end = at + 1 if first == "0" else run_end(piece, at + 1, FIGURES, len(piece))
        sort = "number"
    else:
        return ("sign", sign_end(number, column, piece, at))
    if end < len(piece) and piece[end] in SMALL + GREAT + FIGURES:
        raise NoSign((number, column + end))
    return (sort, end)


def run_end(piece, at, signs, most):
    """Tell the first spot from at on, and no further than most, where none of the signs stands."""
    return min(len(piece) - len(piece[at:].lstrip(signs)), most)


def sign_end(number, column, piece, at):
    """Tell the spot behind the sign that begins at a spot of a piece."""
    if piece[at:at + 2] in LONG_SIGNS:
        return at + 2
    if piece[at] in SORTS:
        return at + 1
    raise NoSign((number, column + at))


def laid(text):
    """Tell the lexemes of a text with the marks among them; NoSign as lexemes."""
    found = lexemes(text)
    layout = Layout()
    told = layout.told
    row = 0
    # The row in which the next lexeme lays no mark, but where it is of those that do; none behind let and of.
    quiet = 0
    for lexeme in found:
        (number, _), _, word = lexeme
        if number == quiet and word not in LAYING:
            told.append(lexeme)
        else:
            layout.take(lexeme, number > row)
            row = number
            quiet = 0 if layout.awaits_block else number
    layout.finish(end_place(found))
    return told


def end_place(told):
    """Tell the place of a text's end, by its lexemes."""
    if not told:
        return (1, 1)
    (row, column), _, word = told[-1]
    return (row, column + len(word))


class Layout:
    """The lexemes and marks of a text so far, and the blocks still open."""

    def __init__(self):
        self.told = []
        # Of each block: its column, how many brackets were open at its begin, the place of its let or None.
        # As ) shuts all within its bracket, these counts tell whether a bracket is open within a block.
        self.blocks = []
        self.brackets = 0
        # The places of the lets that have had no in yet.
        self.lets = []
        self.awaits_block = True
        self.owner = None

    def take(self, lexeme, first_of_row):
        """Add the next lexeme, behind the marks ahead of it."""
        place, _, word = lexeme
        begun = self.awaits_block and self.begin(place)
        if first_of_row and not begun:
            self.line_up(place, word)
        if word == "in":
            self.end_let(place)
        elif word == ")":
            self.close(place)
        elif word == "(":
            self.brackets += 1
        elif word == "let":
            self.lets.append(place)
        self.told.append(lexeme)
        self.awaits_block = word in BLOCK_WORDS
        self.owner = place if word == "let" else None

    def finish(self, place):
        """Add the marks at the text's end."""
        if not self.told:
            self.begin(place)
        while self.blocks:
            self.shut(place)

    def mark(self, place, word):
        self.told.append((place, "mark", word))

    def begin(self, place):
        """Open a block at a place, or an empty one; tell whether it is still open."""
        column = place[1]
        innermost = self.blocks[-1][0] if self.blocks else 0
        self.mark(place, "open")
        if column <= innermost:
            self.mark(place, "shut")
            return False
        self.blocks.append((column, self.brackets, self.owner))
        return True

    def shut(self, place):
        """Shut the innermost block."""
        self.blocks.pop()
        self.mark(place, "shut")

    def in_reach(self):
        """Tell whether there is an innermost block, with no bracket open within it."""
        return len(self.blocks) > 0 and self.blocks[-1][1] == self.brackets

    def line_up(self, place, word):
        """Add the marks that hang on the column of a row's first lexeme."""
        column = place[1]
        while self.in_reach() and self.blocks[-1][0] > column:
            self.shut(place)
        if self.in_reach() and self.blocks[-1][0] == column and word not in NEVER_ITEMS:
            self.mark(place, "item")

    def end_let(self, place):
        """Give the last let without an in this one, and shut its block where that can be reached."""
        if not self.lets:
            return
        owner = self.lets.pop()
        if owner in [let for _, brackets, let in self.blocks if brackets == self.brackets]:
            while self.blocks[-1][2] != owner:
                self.shut(place)
            self.shut(place)

    def close(self, place):
        """Shut all within the last bracket, and close it."""
        if self.brackets == 0:
            return
        while self.in_reach():
            self.shut(place)
        self.brackets -= 1
