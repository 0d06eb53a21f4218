"""Parts told anew, with other names for all that they bind."""

from slumberway.coreparts import asked_names, bound_names, parts_in, parts_within, with_parts
from slumberway.cores import refuse


def anew(program, e):
    """Tell a part of a program with all that it binds called otherwise."""
    refuse(program)
    _, _, tops = program
    taken = {name: True for _, top in tops for part in parts_in(top) for name in bound_names(part)}
    table = {}
    # Of each stem, the number tried last: as names only come to it, none below it comes free.
    numbers = {}
    for part in parts_in(e):
        for name in bound_names(part):
            stem = name.partition(".")[0]
            number = numbers.get(stem, 0) + 1
            while f"{stem}.{number}" in taken:
                number += 1
            numbers[stem] = number
            table[name] = f"{stem}.{number}"
    return renamed(e, table)


def renamed(e, table):
    """Tell a part with other names, as a table tells them."""
    done = []
    pile = [(e, False)]
    while pile:
        part, is_behind = pile.pop()
        inner = parts_within(part)
        if is_behind or not inner:
            at = len(done) - len(inner)
            done[at:] = [with_parts(renamed_itself(part, table), done[at:])]
        else:
            pile.append((part, True))
            pile.extend([(one, False) for one in reversed(inner)])
    return done[0]


def renamed_itself(part, table):
    """Tell a part with the names that it binds and asks for itself exchanged; a now's x stays."""
    if not bound_names(part) and not asked_names(part):
        return part
    word = part[0]
    if word == "name":
        return renamed_atom(part, table)
    if word == "con":
        return (*part[:3], renamed_atoms(part[3], table))
    if word == "call":
        return ("call", part[1], renamed_atom(part[2], table), renamed_atoms(part[3], table))
    if word == "fun":
        return ("fun", part[1], renamed_names(part[2], table), part[3])
    if word == "let":
        return ("let", part[1], tuple([(table.get(name, name), inner) for name, inner in part[2]]), part[3])
    if word == "case":
        _, p, inner, x, alternatives, other = part
        told = tuple([(what, renamed_names(names, table), one) for what, names, one in alternatives])
        return ("case", p, inner, table.get(x, x), told, other)
    return ("early", part[1], table.get(part[2], part[2]), *part[3:])


def renamed_atom(atom, table):
    if atom[0] == "num":
        return atom
    return ("name", atom[1], table.get(atom[2], atom[2]))


def renamed_atoms(atoms, table):
    return tuple([renamed_atom(atom, table) for atom in atoms])


def renamed_names(names, table):
    return tuple([table.get(name, name) for name in names])
