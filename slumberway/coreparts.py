"""What stands within the parts of a core: parts, the names that they bind, the names that they ask for.

Of the words that are in no table here, a part has nothing of the sort within it.
"""


def bound_names(part):
    """Tell the list of the names that a part itself binds, from the left."""
    if part[0] not in BOUND:
        return []
    bound = BOUND[part[0]]
    return bound(part)


def fun_names(part):
    return list(part[2])


def let_names(part):
    return [name for name, _ in part[2]]


def case_names(part):
    told = [part[3]]
    for _, names, _ in part[4]:
        told.extend(names)
    return told


def early_names(part):
    return [part[2]]


BOUND = {"fun": fun_names, "let": let_names, "case": case_names, "early": early_names}


def asked_names(part):
    """Tell the list of the names of a part itself, as atoms or an f."""
    word = part[0]
    if word == "name":
        return [part[2]]
    if word == "con":
        return atom_names(part[3])
    if word == "call":
        return [part[2][2], *atom_names(part[3])]
    return []


def atom_names(atoms):
    return [atom[2] for atom in atoms if atom[0] == "name"]


def parts_within(part):
    """Tell the list of the parts straight within a part, in the order of addresses."""
    if part[0] not in WITHIN:
        return []
    within = WITHIN[part[0]]
    return within(part)


def fun_parts(part):
    return [part[3]]


def let_parts(part):
    return [*[e for _, e in part[2]], part[3]]


def case_parts(part):
    told = [part[2]]
    told.extend([e for _, _, e in part[4]])
    if part[5] is not None:
        told.append(part[5])
    return told


def deed_parts(part):
    return [part[3], part[4]]


def early_parts(part):
    return [part[3], part[5]]


def now_parts(part):
    return [part[4]]


WITHIN = {
    "fun": fun_parts,
    "let": let_parts,
    "case": case_parts,
    "deed": deed_parts,
    "early": early_parts,
    "now": now_parts,
}


def scoped_within(part):
    """Tell the list of the parts straight within a part, each with the names that the part binds around it."""
    word = part[0]
    if word == "fun":
        return [(part[3], part[2])]
    if word == "let":
        names = let_names(part)
        return [*[(inner, names) for _, inner in part[2]], (part[3], names)]
    if word == "case":
        _, _, e, x, alternatives, other = part
        told = [(e, ())]
        told.extend([(inner, (x, *names)) for _, names, inner in alternatives])
        if other is not None:
            told.append((other, (x,)))
        return told
    if word == "early":
        return [(part[3], ()), (part[5], (part[2],))]
    return [(inner, ()) for inner in parts_within(part)]


def with_parts(part, parts):
    """Tell a part with others in the stead of those straight within it."""
    word = part[0]
    if word == "fun":
        return (*part[:3], parts[0])
    if word == "let":
        bindings = tuple([(name, inner) for (name, _), inner in zip(part[2], parts)])
        return ("let", part[1], bindings, parts[-1])
    if word == "case":
        _, p, _, x, alternatives, other = part
        told = tuple([(what, names, inner) for (what, names, _), inner in zip(alternatives, parts[1:])])
        return ("case", p, parts[0], x, told, None if other is None else parts[-1])
    if word == "deed":
        return (*part[:3], parts[0], parts[1])
    if word == "early":
        return (*part[:3], parts[0], part[4], parts[1])
    if word == "now":
        return (*part[:4], parts[0])
    return part


def all_parts(part):
    """Tell the list of (path, part) of a part and all within it, in the order of addresses."""
    told = []
    pile = [((), part)]
    while pile:
        path, part = pile.pop()
        told.append((path, part))
        if part[0] in WITHIN:
            inner = parts_within(part)
            pile.extend([((*path, number), inner[number]) for number in reversed(range(len(inner)))])
    return told


def parts_in(part):
    """Tell the list of a part and all within it, in the order of addresses."""
    told = []
    pile = [part]
    while pile:
        part = pile.pop()
        told.append(part)
        if part[0] in WITHIN:
            within = WITHIN[part[0]]
            pile.extend(within(part)[::-1])
    return told
