"""What a reading keeps of the lexemes and marks it takes, and the tuples of trees that come of it.

A reading is within one thing at a time, a frame: its data is a list of what was kept of it so far. A step is handed
the reading and a lexeme or mark (place, sort, word); it keeps something, or begins a frame within. A closer is handed
the data of a frame that may end, and tells what the frame around keeps of it.
"""

# How close the signs bind what stands beside them.
TIGHTNESS = {"*": 3, "+": 2, "-": 2, "<": 1, "==": 1}


def nothing(reading, lexeme):
    """Keep nothing."""


def keep_word(reading, lexeme):
    reading.data.append(lexeme[2])


def keep_placed_word(reading, lexeme):
    reading.data.append((lexeme[0], lexeme[2]))


def begin_placed(reading, lexeme):
    reading.data = [lexeme[0]]


def begin_placed_word(reading, lexeme):
    reading.data = [lexeme[0], lexeme[2]]


def begin_line(reading, lexeme):
    reading.begin("line", [])


def begin_made(reading, lexeme):
    reading.begin("made", [])


def end_letters(reading, lexeme):
    """Gather a data's letters, and begin its first made."""
    reading.data[2:] = [tuple(reading.data[2:])]
    reading.begin("made", [])


def keep_letter(reading, lexeme):
    reading.data.append(("letter", lexeme[0], lexeme[2]))


def keep_bare_kind(reading, lexeme):
    reading.data.append(("kind", lexeme[0], lexeme[2], ()))


def begin_kind(reading, lexeme):
    reading.begin("kind", [])


def begin_kind_parts(reading, lexeme):
    reading.begin("kind parts", [lexeme[0], lexeme[2]])


def keep_place(reading, lexeme):
    reading.data.append(lexeme[0])


def begin_equation(reading, lexeme):
    reading.begin("equation", [])


def begin_choice(reading, lexeme):
    reading.begin("choice", [])


def keep_any(reading, lexeme):
    reading.data.append(("any", lexeme[0]))


def keep_bind(reading, lexeme):
    reading.data.append(("bind", lexeme[0], lexeme[2]))


def keep_number(reading, lexeme):
    reading.data.append(("num", lexeme[0], int(lexeme[2])))


def keep_bare_made(reading, lexeme):
    reading.data.append(("made", lexeme[0], lexeme[2], ()))


def begin_pattern(reading, lexeme):
    reading.begin("pattern", [])


def begin_pattern_parts(reading, lexeme):
    reading.begin("pattern parts", [lexeme[0], lexeme[2]])


def choose_any(reading, lexeme):
    """Begin a choice with its whole pattern, as the next three."""
    reading.data = [lexeme[0], ("any", lexeme[0])]


def choose_bind(reading, lexeme):
    reading.data = [lexeme[0], ("bind", lexeme[0], lexeme[2])]


def choose_number(reading, lexeme):
    reading.data = [lexeme[0], ("num", lexeme[0], int(lexeme[2]))]


def choose_made(reading, lexeme):
    reading.data = [lexeme[0]]
    reading.begin("pattern parts", [lexeme[0], lexeme[2]])


def choose_bracket(reading, lexeme):
    reading.data = [lexeme[0]]
    reading.begin("pattern", [])


def begin_sides(reading, lexeme):
    """Gather an equation's patterns, and begin its side or first guard."""
    reading.data[2:] = [tuple(reading.data[2:])]
    reading.begin("expr", [])


def begin_expr(reading, lexeme):
    reading.begin("expr", [])


def begin_asking(reading, lexeme):
    """Begin an if or a case, with what is asked in it."""
    reading.data = [lexeme[0]]
    reading.begin("expr", [])


# Of an expression without a word of its own: the ops that wait for their right part, each (left part, place, sign),
# then the place of the first atom of the call that is read, then its atoms.

def first_atom(reading, lexeme):
    place, sort, word = lexeme
    reading.data = [[], place, (sort, place, word)]


def first_number(reading, lexeme):
    reading.data = [[], lexeme[0], ("num", lexeme[0], int(lexeme[2]))]


def first_bracket(reading, lexeme):
    reading.data = [[], lexeme[0]]
    reading.begin("expr", [])


def keep_atom(reading, lexeme):
    place, sort, word = lexeme
    reading.data.append((sort, place, word))


def operand_atom(reading, lexeme):
    place, sort, word = lexeme
    reading.data.extend([place, (sort, place, word)])


def operand_number(reading, lexeme):
    reading.data.extend([lexeme[0], ("num", lexeme[0], int(lexeme[2]))])


def operand_bracket(reading, lexeme):
    reading.data.append(lexeme[0])
    reading.begin("expr", [])


def keep_sign(reading, lexeme):
    """End what is left of a sign."""
    place, _, sign = lexeme
    data = reading.data
    ops = data[0]
    told = call_of(data)
    while ops and TIGHTNESS[ops[-1][2]] >= TIGHTNESS[sign]:
        left, at, word = ops.pop()
        told = ("op", at, word, left, told)
    ops.append((told, place, sign))
    del data[1:]


def call_of(data):
    if len(data) == 3:
        return data[2]
    return ("call", data[1], data[2], tuple(data[3:]))


def close_expr(data):
    told = call_of(data)
    for left, at, word in reversed(data[0]):
        told = ("op", at, word, left, told)
    return told


def close_data(data):
    return ("data", data[0], data[1], data[2], tuple(data[3:]))


def close_made(data):
    return (data[0], data[1], tuple(data[2:]))


def close_kind(data):
    told = data[-1]
    for at in reversed(range(0, len(data) - 1, 2)):
        told = ("to", data[at + 1], data[at], told)
    return told


def close_kind_parts(data):
    return ("kind", data[0], data[1], tuple(data[2:]))


def close_pattern(data):
    return data[0]


def close_pattern_parts(data):
    return ("made", data[0], data[1], tuple(data[2:]))


def close_equation(data):
    return ("equation", data[0], data[1], data[2], ((None, data[3]),))


def close_guarded_equation(data):
    return ("equation", data[0], data[1], data[2], tuple(zip(data[3::2], data[4::2])))


def close_choice(data):
    return (data[0], data[1], ((None, data[2]),))


def close_guarded_choice(data):
    return (data[0], data[1], tuple(zip(data[2::2], data[3::2])))


def close_fun(data):
    return ("fun", data[0], tuple(data[1:-1]), data[-1])


def close_let(data):
    return ("let", data[0], joined(data[1:-1]), data[-1])


def close_if(data):
    return ("if", *data)


def close_case(data):
    return ("case", data[0], data[1], tuple(data[2:]))


def joined(lines):
    """Tell the tuple of lines, equations of one name that stand straight behind one another in one def."""
    told = []
    names = []
    for line in lines:
        if line[0] == "data":
            told.append(line)
            names.append(None)
            continue
        _, place, name, patterns, sides = line
        if names and names[-1] == name:
            told[-1][3].append((place, patterns, sides))
        else:
            told.append(["def", place, name, [(place, patterns, sides)]])
            names.append(name)
    return tuple([line if line[0] == "data" else ("def", line[1], name, tuple(line[3]))
                  for line, name in zip(told, names)])


# The steps by their words, as the grammar's table has them.
ACTS = {
    "begin asking": begin_asking,
    "begin choice": begin_choice,
    "begin equation": begin_equation,
    "begin expr": begin_expr,
    "begin kind": begin_kind,
    "begin kind parts": begin_kind_parts,
    "begin line": begin_line,
    "begin made": begin_made,
    "begin pattern": begin_pattern,
    "begin pattern parts": begin_pattern_parts,
    "begin placed": begin_placed,
    "begin placed word": begin_placed_word,
    "begin sides": begin_sides,
    "choose any": choose_any,
    "choose bind": choose_bind,
    "choose bracket": choose_bracket,
    "choose made": choose_made,
    "choose number": choose_number,
    "end letters": end_letters,
    "first atom": first_atom,
    "first bracket": first_bracket,
    "first number": first_number,
    "keep any": keep_any,
    "keep atom": keep_atom,
    "keep bare kind": keep_bare_kind,
    "keep bare made": keep_bare_made,
    "keep bind": keep_bind,
    "keep letter": keep_letter,
    "keep number": keep_number,
    "keep place": keep_place,
    "keep placed word": keep_placed_word,
    "keep sign": keep_sign,
    "keep word": keep_word,
    "nothing": nothing,
    "operand atom": operand_atom,
    "operand bracket": operand_bracket,
    "operand number": operand_number,
}
# How to close a frame, by the states in which it may end.
CLOSERS = {
    "mades": close_data,
    "made kinds": close_made,
    "kind behind": close_kind,
    "kind parts": close_kind_parts,
    "pattern)": close_pattern,
    "pattern parts": close_pattern_parts,
    "side": close_equation,
    "guards": close_guarded_equation,
    "choice side": close_choice,
    "choice guards": close_guarded_choice,
    "fun body": close_fun,
    "let body": close_let,
    "else": close_if,
    "case shut": close_case,
    "atoms": close_expr,
    "last atoms": close_expr,
}
