"""Parts told anew, with other names for all that they bind."""

from slumberway.coreparts import BOUND, bound_names, parts_in
from slumberway.cores import refuse


def anew(program, e):
    """Tell a part of a program with all that it binds called otherwise."""
    judge = refuse(program)
    return renamed(e, new_names(e, judge.names))


def new_names(e, taken):
    """Tell a dict from the names that a part binds to new ones; taken tells all that the program binds."""
    table = {}
    # Of each stem, the number tried last: as names only come to it, none below it comes free.
    numbers = {}
    for part in parts_in(e):
        if part[0] not in BOUND:
            continue
        for name in bound_names(part):
            stem = name.partition(".")[0]
            number = numbers.get(stem, 0) + 1
            told = f"{stem}.{number}"
            while told in taken:
                number += 1
                told = f"{stem}.{number}"
            numbers[stem] = number
            table[name] = told
    return table


def renamed(e, table):
    """Tell a part with other names, as a table tells them; a now's x stays."""
    word = e[0]
    if word == "name":
        return (word, e[1], table[e[2]]) if e[2] in table else e
    if word == "con":
        return (word, e[1], e[2], renamed_atoms(e[3], table))
    if word == "call":
        f, *atoms = renamed_atoms((e[2], *e[3]), table)
        return (word, e[1], f, tuple(atoms))
    if word == "fun":
        return (word, e[1], renamed_names(e[2], table), renamed(e[3], table))
    if word == "let":
        bindings = []
        for name, inner in e[2]:
            bindings.append((table.get(name, name), renamed(inner, table)))
        return (word, e[1], tuple(bindings), renamed(e[3], table))
    if word == "case":
        _, p, inner, x, alternatives, other = e
        told = []
        for what, names, one in alternatives:
            told.append((what, renamed_names(names, table), renamed(one, table)))
        other = None if other is None else renamed(other, table)
        return (word, p, renamed(inner, table), table.get(x, x), tuple(told), other)
    if word == "deed":
        return (word, e[1], e[2], renamed(e[3], table), renamed(e[4], table))
    if word == "early":
        return (word, e[1], table.get(e[2], e[2]), renamed(e[3], table), e[4], renamed(e[5], table))
    if word == "now":
        return (word, e[1], e[2], e[3], renamed(e[4], table))
    return e


def renamed_atoms(atoms, table):
    return tuple([("name", p, table[x]) if sort == "name" and x in table else (sort, p, x) for sort, p, x in atoms])


def renamed_names(names, table):
    return tuple([table.get(name, name) for name in names])
