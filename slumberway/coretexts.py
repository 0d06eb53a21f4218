"""Programs as texts, one row a place, a maker's lot, a part, and texts read to programs.

The first row tells how many rows of each sort follow, so no row can be left out unseen. A part's row tells what of
it is no part; the parts within it stand in the rows behind, in the order of addresses.
"""

from slumberway.coreforms import is_maker
from slumberway.corejudge import LONGEST_PATH
from slumberway.cores import program_wrong, refuse
from slumberway.errors import NoText

# A word of more figures is no number of a core, by far.
MOST_FIGURES = 900


def core_text(program):
    """Tell a program's text, that read_core reads to just that program."""
    refuse(program)
    return told_text(program)


def told_text(program):
    places, data, tops = program
    rows = [f"place {row} {column}" for row, column in places]
    for maker, lot in data.items():
        words = [word for other, many in lot for word in (other, str(many))]
        rows.append(" ".join(["lot", maker, *words]))
    for x, e in tops:
        rows.append(f"top {x}")
        add_rows(e, rows)
    return "\n".join([f"core {len(places)} {len(data)} {len(tops)} {len(rows)}", *rows])


def add_rows(part, rows):
    """Add the rows of a part and all within it."""
    word, p, third = part[:3]
    if word == "con":
        rows.append(atoms_row(f"con {p} {third}", part[3]))
    elif word == "call":
        rows.append(atoms_row(f"call {p}", (third, *part[3])))
    elif word == "deed":
        rows.append(f"deed {p} {third}")
        add_rows(part[3], rows)
        add_rows(part[4], rows)
    elif word == "case":
        rows.append(case_row(part))
        add_rows(third, rows)
        for _, _, inner in part[4]:
            add_rows(inner, rows)
        if part[5] is not None:
            add_rows(part[5], rows)
    elif word == "let":
        rows.append(" ".join([f"let {p}", *[name for name, _ in third]]))
        for _, inner in third:
            add_rows(inner, rows)
        add_rows(part[3], rows)
    elif word == "fun":
        rows.append(" ".join([f"fun {p}", *third]))
        add_rows(part[3], rows)
    elif word == "early":
        rows.append(f"early {p} {third} {part[4]}")
        add_rows(part[3], rows)
        add_rows(part[5], rows)
    elif word == "now":
        rows.append(f"now {p} {third} {part[3]}")
        add_rows(part[4], rows)
    else:
        rows.append(f"{word} {p} {third}")


def atoms_row(ahead, atoms):
    return " ".join([ahead, *[f"{sort} {p} {worth}" for sort, p, worth in atoms]])


def case_row(part):
    _, p, _, x, alternatives, other = part
    words = [f"case {p} {x}", "none" if other is None else "other"]
    for what, names, _ in alternatives:
        words.append(f"{what} {len(names)}")
        words.extend(names)
    return " ".join(words)


def read_core(text):
    """Tell the program of such a text; NoText of a text with a row left out."""
    reader = CoreReader(text.split("\n"))
    program = reader.program()
    # What isn't the text of a program reads to none, or to one of another text.
    if program_wrong(program) is not None or told_text(program) != text:
        raise NoText(0, 0)
    return program


class CoreReader:
    """Reads the rows of a core's text, one behind the other."""

    def __init__(self, rows):
        self.rows = rows
        # The row that is read next.
        self.row = 0

    def program(self):
        """Tell what the rows tell; NoText where they go on otherwise."""
        words = self.next_row("core", 5)
        places, lots, tops, many = [self.number(word) for word in words[1:5]]
        if many != len(self.rows) - 1 or places + lots + tops > many:
            raise NoText(0, 0)
        told = (self.places(places), {}, [])
        for _ in range(lots):
            words = self.next_row("lot", 2)
            told[1][words[1]] = tuple([(words[at], self.number(words[at + 1])) for at in range(2, len(words) - 1, 2)])
        for _ in range(tops):
            words = self.next_row("top", 2)
            told[2].append((words[1], self.part(LONGEST_PATH)))
        return told

    def next_row(self, word, least):
        """Tell the words of the next row, which has to begin with a word, and to have so many at least."""
        words = self.rows[self.row].split(" ") if self.row < len(self.rows) else []
        if len(words) < least or words[0] != word:
            raise NoText(self.row, 0)
        self.row += 1
        return words

    def places(self, many):
        """Tell the places of the next rows."""
        words = " ".join(self.rows[self.row:self.row + many]).replace("place ", "").split(" ") if many else []
        self.row += many
        figures = "".join(words)
        if len(words) != 2 * many or "" in words or many and not figures.isdecimal():
            raise NoText(self.row - 1, 0)
        if len(figures) > MOST_FIGURES and max(map(len, words)) > MOST_FIGURES:
            raise NoText(self.row - 1, 0)
        numbers = list(map(int, words))
        return list(zip(numbers[0::2], numbers[1::2]))

    def number(self, word):
        """Tell the number of a word of the row that was read last."""
        try:
            return int(word)
        except ValueError:
            raise NoText(self.row - 1, 0)

    def part(self, left):
        """Tell the part of the next rows; its path may have so many numbers more."""
        words = self.rows[self.row].split(" ") if self.row < len(self.rows) else []
        if len(words) < 3 or words[0] not in READ or left < 0:
            raise NoText(self.row, 0)
        self.row += 1
        read = READ[words[0]]
        return read(self, words, self.number(words[1]), left - 1)

    def atoms(self, words):
        """Tell the atoms of words, three each."""
        told = []
        for at in range(0, len(words) - 2, 3):
            sort, p, worth = words[at:at + 3]
            told.append((sort, self.number(p), self.number(worth) if sort == "num" else worth))
        return tuple(told)


def read_num(reader, words, p, left):
    return ("num", p, reader.number(words[2]))


def read_word(reader, words, p, left):
    return (words[0], p, words[2])


def read_con(reader, words, p, left):
    return ("con", p, words[2], reader.atoms(words[3:]))


def read_call(reader, words, p, left):
    atoms = reader.atoms(words[2:])
    return ("call", p, atoms[0] if atoms else (), atoms[1:])


def read_fun(reader, words, p, left):
    return ("fun", p, tuple(words[2:]), reader.part(left))


def read_let(reader, words, p, left):
    bindings = []
    for name in words[2:]:
        bindings.append((name, reader.part(left)))
    return ("let", p, tuple(bindings), reader.part(left))


def read_case(reader, words, p, left):
    heads = []
    at = 4
    while at < len(words) - 1:
        behind = at + 2 + reader.number(words[at + 1])
        what = words[at] if is_maker(words[at]) else reader.number(words[at])
        heads.append((what, tuple(words[at + 2:behind])))
        at = behind
    e = reader.part(left)
    alternatives = []
    for what, names in heads:
        alternatives.append((what, names, reader.part(left)))
    other = reader.part(left) if words[3:4] == ["other"] else None
    return ("case", p, e, words[2], tuple(alternatives), other)


def read_deed(reader, words, p, left):
    return ("deed", p, words[2], reader.part(left), reader.part(left))


def read_early(reader, words, p, left):
    q = reader.number(words[-1])
    return ("early", p, words[2], reader.part(left), q, reader.part(left))


def read_now(reader, words, p, left):
    return ("now", p, reader.number(words[2]), words[-1], reader.part(left))


READ = {
    "num": read_num,
    "name": read_word,
    "con": read_con,
    "call": read_call,
    "fun": read_fun,
    "let": read_let,
    "case": read_case,
    "deed": read_deed,
    "fault": read_word,
    "early": read_early,
    "now": read_now,
}
