"""The tuples of trees, each built of what a rule of the grammar took.

A builder is handed the place of the first lexeme that its rule took, and the rule's parts in order:
lexemes and marks (place, sort, word), and what the builders of the rules within told.
"""


def text_of(_, parts):
    # Marks stand between the lines, and around them.
    return joined(parts[1:-1:2])


def joined(lines):
    """Tell the tuple of lines, equations of one name that stand straight behind one another in one def."""
    told = []
    for line in lines:
        if line[0] == "data":
            told.append(line)
            continue
        _, place, name, patterns, sides = line
        equation = (place, patterns, sides)
        if told and told[-1][0] == "def" and told[-1][2] == name:
            _, first_place, _, equations = told[-1]
            told[-1] = ("def", first_place, name, (*equations, equation))
        else:
            told.append(("def", place, name, (equation,)))
    return tuple(told)


def placed_words(found):
    """Tell the tuple of (place, word) of some lexemes."""
    return tuple([(place, word) for place, _, word in found])


def data_of(place, parts):
    equals = [part[2] for part in parts].index("=")
    return ("data", place, parts[1][2], placed_words(parts[2:equals]), tuple(parts[equals + 1::2]))


def made_of(place, parts):
    return (place, parts[0][2], tuple(parts[1:]))


def kind_of(_, parts):
    if len(parts) == 1:
        return parts[0]
    one, sign, other = parts
    return ("to", sign[0], one, other)


def kind_with_parts(place, parts):
    return ("kind", place, parts[0][2], tuple(parts[1:]))


def small_kind(place, parts):
    if len(parts) == 3:
        return parts[1]
    return ("letter", place, parts[0][2])


def equation_of(place, parts):
    name, *patterns, sides = parts
    return ("equation", place, name[2], tuple(patterns), sides)


def sides_of(_, parts):
    if len(parts) == 2:
        return ((None, parts[1]),)
    return tuple(zip(parts[1::4], parts[3::4]))


def pattern_with_parts(place, parts):
    return ("made", place, parts[0][2], tuple(parts[1:]))


def small_pattern(place, parts):
    if len(parts) == 3:
        return parts[1]
    _, sort, word = parts[0]
    if sort == "number":
        return ("num", place, int(word))
    if sort == "name":
        return ("bind", place, word)
    return ("any", place)


def function_of(place, parts):
    return ("fun", place, placed_words(parts[1:-2]), parts[-1])


def bound_of(place, parts):
    return ("let", place, joined(parts[2:-3:2]), parts[-1])


def choosing_of(place, parts):
    return ("if", place, parts[1], parts[3], parts[5])


def cases_of(place, parts):
    return ("case", place, parts[1], tuple(parts[4:-1:2]))


def choice_of(place, parts):
    pattern, sides = parts
    return (place, pattern, sides)


def ops_of(_, parts):
    told = parts[0]
    for sign, right in zip(parts[1::2], parts[2::2]):
        told = ("op", sign[0], sign[2], told, right)
    return told


def call_of(place, parts):
    if len(parts) == 1:
        return parts[0]
    return ("call", place, parts[0], tuple(parts[1:]))


def atom_of(place, parts):
    if len(parts) == 3:
        return parts[1]
    _, sort, word = parts[0]
    if sort == "number":
        return ("num", place, int(word))
    return (sort, place, word)


# What a rule that isn't here took are parts of the rule around it.
BUILDERS = {
    "text": text_of,
    "data line": data_of,
    "made": made_of,
    "kind": kind_of,
    "kind with parts": kind_with_parts,
    "kind without parts": kind_with_parts,
    "small kind": small_kind,
    "equation": equation_of,
    "sides": sides_of,
    "pattern with parts": pattern_with_parts,
    "pattern without parts": pattern_with_parts,
    "small pattern": small_pattern,
    "function": function_of,
    "bound": bound_of,
    "choosing": choosing_of,
    "choosing by cases": cases_of,
    "choice": choice_of,
    "choice sides": sides_of,
    "comparing": ops_of,
    "sum": ops_of,
    "product": ops_of,
    "call": call_of,
    "atom": atom_of,
}
