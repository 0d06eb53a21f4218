"""Programs as texts, one row a place, a maker's lot, a part, and texts read to programs.

The first row tells how many rows of each sort follow, so no row can be left out unseen. A part's row tells what of
it is no part; the parts within it stand in the rows behind, in the order of addresses.
"""

from slumberway.coreforms import is_maker
from slumberway.coreparts import parts_in, with_parts
from slumberway.cores import program_wrong, refuse
from slumberway.errors import NoText
from slumberway.lexemes import FIGURES


def core_text(program):
    """Tell a program's text, that read_core reads to just that program."""
    refuse(program)
    return told_text(program)


def told_text(program):
    places, data, tops = program
    rows = [f"place {row} {column}" for row, column in places]
    for maker, lot in data.items():
        words = [word for other, many in lot for word in (other, str(many))]
        rows.append(" ".join(["lot", maker, *words]))
    for x, e in tops:
        rows.append(f"top {x}")
        rows.extend([" ".join(part_words(part)) for part in parts_in(e)])
    counts = [len(places), len(data), len(tops), len(rows)]
    return "\n".join([" ".join(["core", *[str(count) for count in counts]]), *rows])


def part_words(part):
    """Tell the words of a part's row."""
    word, p = part[:2]
    words_of = WORDS[word]
    return [word, str(p), *words_of(part)]


def plain_words(part):
    return [str(part[2])]


def con_words(part):
    return [part[2], *atom_words(part[3])]


def call_words(part):
    return atom_words((part[2], *part[3]))


def atom_words(atoms):
    return [word for sort, p, worth in atoms for word in (sort, str(p), str(worth))]


def fun_words(part):
    return list(part[2])


def let_words(part):
    return [name for name, _ in part[2]]


def case_words(part):
    _, _, _, x, alternatives, other = part
    words = [x, "none" if other is None else "other"]
    for what, names, _ in alternatives:
        words.extend([str(what), str(len(names)), *names])
    return words


def early_words(part):
    return [part[2], str(part[4])]


def now_words(part):
    return [str(part[2]), part[3]]


WORDS = {
    "num": plain_words,
    "name": plain_words,
    "con": con_words,
    "call": call_words,
    "fun": fun_words,
    "let": let_words,
    "case": case_words,
    "deed": plain_words,
    "fault": plain_words,
    "early": early_words,
    "now": now_words,
}


def read_core(text):
    """Tell the program of such a text; NoText of a text with a row left out."""
    reader = CoreReader(text.split("\n"))
    program = reader.program()
    # What isn't the text of a program reads to none, or to one of another text.
    if program_wrong(program) is not None or told_text(program) != text:
        raise NoText(0, 0)
    return program


class CoreReader:
    """Reads the rows of a core's text, one behind the other."""

    def __init__(self, rows):
        self.rows = rows
        # The row that is read, its words, and the next of them.
        self.row = -1
        self.words = []
        self.spot = 0

    def program(self):
        """Tell what the rows tell; NoText where they go on otherwise."""
        self.next_row("core")
        places, lots, tops, rows = [self.take_number(), self.take_number(), self.take_number(), self.take_number()]
        if rows != len(self.rows) - 1:
            raise NoText(0, 0)
        told = ([], {}, [])
        for _ in range(places):
            self.next_row("place")
            told[0].append((self.take_number(), self.take_number()))
        for _ in range(lots):
            self.next_row("lot")
            maker = self.take_word()
            told[1][maker] = tuple([(self.take_word(), self.take_number()) for _ in range(len(self.words) // 2 - 1)])
        for _ in range(tops):
            self.next_row("top")
            x = self.take_word()
            told[2].append((x, self.part()))
        return told

    def next_row(self, word):
        """Go on to the next row, which has to begin with a word."""
        self.row += 1
        self.words = self.rows[self.row].split(" ") if self.row < len(self.rows) else []
        self.spot = 0
        if self.take_word() != word:
            raise NoText(self.row, 0)

    def at_end(self):
        return self.spot >= len(self.words)

    def take_word(self):
        """Tell the next word of the row."""
        if self.at_end():
            raise NoText(self.row, self.spot)
        self.spot += 1
        return self.words[self.spot - 1]

    def take_number(self):
        """Tell the next word of the row, which has to be a number."""
        word = self.take_word()
        if not is_number_word(word):
            raise NoText(self.row, self.spot - 1)
        return int(word)

    def part(self):
        """Tell the part of the next rows."""
        done = []
        # Of each part that is read, outermost first, itself with no parts in it, and how many are to come.
        pile = []
        while not done:
            part, many = self.hollow()
            pile.append((part, many, []))
            while pile and len(pile[-1][2]) == pile[-1][1]:
                part, _, parts = pile.pop()
                whole = with_parts(part, parts)
                (pile[-1][2] if pile else done).append(whole)
        return done[0]

    def hollow(self):
        """Tell the part of the next row with None in the stead of all parts, and how many they are."""
        self.row += 1
        self.words = self.rows[self.row].split(" ") if self.row < len(self.rows) else []
        self.spot = 0
        word = self.take_word()
        if word not in READ:
            raise NoText(self.row, 0)
        read = READ[word]
        p = self.take_number()
        return read(self, word, p)

    def take_names(self):
        """Tell all words that the row still has."""
        return tuple([self.take_word() for _ in range(len(self.words) - self.spot)])

    def atom(self):
        sort = self.take_word()
        return (sort, self.take_number(), self.take_number() if sort == "num" else self.take_word())

    def atoms(self):
        return tuple([self.atom() for _ in range((len(self.words) - self.spot) // 3)])


def is_number_word(word):
    return word != "" and all([sign in FIGURES for sign in word]) and len(word) <= 60


def read_num(reader, word, p):
    return ((word, p, reader.take_number()), 0)


def read_word(reader, word, p):
    return ((word, p, reader.take_word()), 0)


def read_con(reader, word, p):
    return ((word, p, reader.take_word(), reader.atoms()), 0)


def read_call(reader, word, p):
    return ((word, p, reader.atom(), reader.atoms()), 0)


def read_fun(reader, word, p):
    return ((word, p, reader.take_names(), None), 1)


def read_let(reader, word, p):
    names = reader.take_names()
    return ((word, p, tuple([(name, None) for name in names]), None), len(names) + 1)


def read_case(reader, word, p):
    x = reader.take_word()
    other = reader.take_word()
    alternatives = []
    while not reader.at_end():
        what = reader.take_word()
        names = tuple([reader.take_word() for _ in range(reader.take_number())])
        alternatives.append((what if is_maker(what) else number_of(reader, what), names, None))
    hollow = (word, p, None, x, tuple(alternatives), None if other == "none" else other)
    return (hollow, 1 + len(alternatives) + (other != "none"))


def number_of(reader, word):
    if not is_number_word(word):
        raise NoText(reader.row, reader.spot)
    return int(word)


def read_deed(reader, word, p):
    return ((word, p, reader.take_word(), None, None), 2)


def read_early(reader, word, p):
    x = reader.take_word()
    return ((word, p, x, None, reader.take_number(), None), 2)


def read_now(reader, word, p):
    return ((word, p, reader.take_number(), reader.take_word(), None), 1)


READ = {
    "num": read_num,
    "name": read_word,
    "con": read_con,
    "call": read_call,
    "fun": read_fun,
    "let": read_let,
    "case": read_case,
    "deed": read_deed,
    "fault": read_word,
    "early": read_early,
    "now": read_now,
}
