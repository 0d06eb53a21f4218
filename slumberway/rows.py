"""Programs as numbered rows, rows as texts, and the machine that goes by rows alone."""

from slumberway.answers import ran, refuse_asked
from slumberway.cores import refuse
from slumberway.errors import NoText
from slumberway.lexemes import FIGURES
from slumberway.machines import MOST
from slumberway.rowmaking import made_rows
from slumberway.rowruns import RowRun


def rows_of(program):
    """Tell the list of a program's rows."""
    refuse(program)
    return made_rows(program)


def by_rows(rows, x, *, depth=20, most=MOST):
    """Tell the answer of a top, asked by rows, and what it costs."""
    refuse_asked([row[2] for row in rows[1:1 + rows[0][4]]], x, depth, most)
    return ran(RowRun(rows, most), x, depth)


def rows_text(rows):
    """Tell the text of rows, a line each."""
    return "\n".join([" ".join(row_words(row)) for row in rows])


def row_words(row):
    """Tell the words of a row: numbers by their figures, - of None, and brackets around tuples within it."""
    told = []
    pile = list(row[::-1])
    while pile:
        thing = pile.pop()
        if thing is None:
            told.append("-")
        elif isinstance(thing, tuple):
            pile.extend([")", *thing[::-1], "("])
        else:
            told.append(str(thing))
    return told


def read_rows(text):
    """Tell the rows of such a text; NoText of a text with a line left out."""
    rows = [read_row(number, line) for number, line in enumerate(text.split("\n"))]
    # The first row tells how many there are.
    if rows[0][0] != "rows" or len(rows[0]) != 5 or rows[0][2] != len(rows):
        raise NoText(0, 0)
    return rows


def read_row(number, line):
    """Tell a row of the words of a line."""
    # The things of the row and of the brackets that are open, the innermost last.
    pile = [[]]
    for spot, word in enumerate(line.split(" ")):
        if word == "(":
            pile.append([])
        elif word == ")":
            if len(pile) == 1:
                raise NoText(number, spot)
            told = tuple(pile.pop())
            pile[-1].append(told)
        elif word == "-":
            pile[-1].append(None)
        elif word and word[0] in FIGURES:
            pile[-1].append(int(word))
        else:
            pile[-1].append(word)
    if len(pile) > 1:
        raise NoText(number, 0)
    return tuple(pile[0])
