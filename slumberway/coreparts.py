"""What stands within the parts of a core: parts, the names that they bind, the names that they ask for."""


def bound_names(part):
    """Tell the list of the names that a part itself binds, from the left."""
    word = part[0]
    if word == "fun":
        return list(part[2])
    if word == "let":
        return [name for name, _ in part[2]]
    if word == "case":
        return [part[3], *[name for _, names, _ in part[4] for name in names]]
    if word == "early":
        return [part[2]]
    return []


def asked_names(part):
    """Tell the list of the names of a part itself, as atoms or an f."""
    word = part[0]
    if word == "name":
        return [part[2]]
    if word == "con":
        return atom_names(part[3])
    if word == "call":
        return [part[2][2], *atom_names(part[3])]
    return []


def atom_names(atoms):
    return [atom[2] for atom in atoms if atom[0] == "name"]


def parts_within(part):
    """Tell the list of the parts straight within a part, in the order of addresses."""
    return [inner for inner, _ in scoped_within(part)]


def scoped_within(part):
    """Tell the list of the parts straight within a part, each with the names that the part binds around it."""
    word = part[0]
    if word == "fun":
        return [(part[3], part[2])]
    if word == "let":
        names = bound_names(part)
        return [*[(inner, names) for _, inner in part[2]], (part[3], names)]
    if word == "case":
        _, _, e, x, alternatives, other = part
        told = [(e, ())]
        told.extend([(inner, (x, *names)) for _, names, inner in alternatives])
        if other is not None:
            told.append((other, (x,)))
        return told
    if word == "deed":
        return [(part[3], ()), (part[4], ())]
    if word == "early":
        return [(part[3], ()), (part[5], (part[2],))]
    if word == "now":
        return [(part[4], ())]
    return []


def with_parts(part, parts):
    """Tell a part with others in the stead of those straight within it."""
    word = part[0]
    if word == "fun":
        return (*part[:3], parts[0])
    if word == "let":
        bindings = tuple([(name, inner) for (name, _), inner in zip(part[2], parts)])
        return ("let", part[1], bindings, parts[-1])
    if word == "case":
        _, p, _, x, alternatives, other = part
        told = tuple([(what, names, inner) for (what, names, _), inner in zip(alternatives, parts[1:])])
        return ("case", p, parts[0], x, told, None if other is None else parts[-1])
    if word == "deed":
        return (*part[:3], parts[0], parts[1])
    if word == "early":
        return (*part[:3], parts[0], part[4], parts[1])
    if word == "now":
        return (*part[:4], parts[0])
    return part


def all_parts(part):
    """Tell the list of (path, part) of a part and all within it, in the order of addresses."""
    told = []
    pile = [((), part)]
    while pile:
        path, part = pile.pop()
        told.append((path, part))
        inner = parts_within(part)
        pile.extend([((*path, number), inner[number]) for number in reversed(range(len(inner)))])
    return told


def parts_in(part):
    """Tell the list of a part and all within it, in the order of addresses."""
    told = []
    pile = [part]
    while pile:
        part = pile.pop()
        told.append(part)
        pile.extend(parts_within(part)[::-1])
    return told
