"""The rules of turnings: what each of them asks of a part, by a view of its program, and what stands there then."""

from slumberway.coreparts import asked_names, parts_in, parts_within, with_parts
from slumberway.firsts import PLAIN, asked_first
from slumberway.renames import new_names, renamed

# Of each rule, of what parts it is, and whether it is of one of their bindings.
RULES = {
    "drop": ("let", True),
    "known": ("case", False),
    "once": ("let", True),
    "past": ("let", False),
    "early": ("let", False),
    "put": ("call", False),
}
# Where all may be turned, a fun is put whose e has so many parts at most.
SMALL = 12


def without(let, k):
    """Tell what is left of a let behind the loss of its k-th binding."""
    _, p, bindings, e = let
    left = (*bindings[:k], *bindings[k + 1:])
    return ("let", p, left, e) if left else e


def let_around(p, bindings, e):
    return ("let", p, tuple(bindings), e) if bindings else e


def drop_why(view, number, k):
    """Tell the word of what keeps a rule from being done, None where nothing does; so all that end in _why."""
    name = view.parts[number][2][k][0]
    own = view.inner(number)[k]
    for at in view.asked.get(name, ()):
        if not own <= at < view.ends[own]:
            return "named"
    return None


def drop_part(view, number, k):
    """Tell the part that takes the stead of the turned one; so all that end in _part."""
    return without(view.parts[number], k)


def known_head(view, number):
    """Tell (what, atoms, whether it is told by a name) of the head of a case's e; None where it isn't known."""
    e = view.parts[number][2]
    if e[0] in ("con", "num"):
        return (*plain_head(e), False)
    if e[0] != "name":
        return None
    bound = view.bound_part(e[2])
    if bound is not None:
        return (*plain_head(bound), True) if bound[0] in ("con", "num") else None
    if e[2] not in view.heads:
        return None
    around = view.heads[e[2]]
    if view.parts[around][0] != "case":
        return None
    step, _ = view.step_to(around, number)
    alternatives = view.parts[around][4]
    if not 0 < step <= len(alternatives):
        return None
    what, names, _ = alternatives[step - 1]
    return (what, tuple([("name", 0, name) for name in names]), True)


def plain_head(part):
    return (part[2], part[3]) if part[0] == "con" else (part[2], ())


def known_why(view, number, k):
    return "unknown" if known_head(view, number) is None else None


def known_part(view, number, k):
    case = view.parts[number]
    _, p, e, x, _, _ = case
    head, atoms, is_named = known_head(view, number)
    names, part = chosen(case, head)
    table = {}
    bindings = []
    if is_named:
        table[x] = e[2]
    else:
        bindings.append((x, e))
    for name, atom in zip(names, atoms):
        if atom[0] == "name":
            table[name] = atom[2]
        else:
            bindings.append((name, atom))
    asked = asked_within(part) if bindings else {}
    return let_around(p, [binding for binding in bindings if binding[0] in asked], renamed(part, table))


def chosen(case, head):
    """Tell the names and the part of what a case comes to with a known head."""
    _, p, _, _, alternatives, other = case
    for what, names, part in alternatives:
        if what == head:
            return (names, part)
    return ((), ("fault", p, "none") if other is None else other)


def asked_within(e):
    """Tell a dict of the names that a part, and all within it, names, with True."""
    told = {}
    for part in parts_in(e):
        for name in asked_names(part):
            told[name] = True
    return told


def put_why(view, number, k):
    call = view.parts[number]
    fun = view.bound_part(call[2][2])
    if fun is None or fun[0] != "fun":
        return "unknown"
    return None if len(fun[2]) == len(call[3]) else "count"


def put_part(view, number, k):
    _, p, f, atoms = view.parts[number]
    fun = view.bound_part(f[2])
    table = new_names(fun, view.bound)
    bindings = []
    for name, atom in zip(fun[2], atoms):
        if atom[0] == "name":
            table[name] = atom[2]
        else:
            bindings.append((table[name], atom))
    return let_around(p, bindings, renamed(fun[3], table))


def is_small(view, number):
    """Tell whether the fun that a call comes to has a small e without a call; so it may be put again and again."""
    at = view.bound[view.parts[number][2][2]] + 1
    within = view.parts[at:view.ends[at]]
    return len(within) <= SMALL and all([part[0] != "call" for part in within])


def is_lone(view, number):
    """Tell whether a let has one binding, whose part doesn't name it."""
    bindings = view.parts[number][2]
    return len(bindings) == 1 and not view.names_it(bindings[0][0], number + 1)


def past_why(view, number, k):
    _, _, bindings, e = view.parts[number]
    if not is_lone(view, number):
        return "group"
    if e[0] != "case":
        return "case"
    asked, *others = named_by(view, number, bindings[0][0])
    return "named" if asked or sum(others) != 1 else None


def named_by(view, number, name):
    """Tell of each part straight within a let's case whether it names a name."""
    _, case = view.inner(number)
    return [view.names_it(name, inner) for inner in view.inner(case)]


def past_part(view, number, k):
    _, p, bindings, case = view.parts[number]
    at = named_by(view, number, bindings[0][0]).index(True)
    parts = parts_within(case)
    parts[at] = ("let", p, bindings, parts[at])
    return with_parts(case, parts)


def once_why(view, number, k):
    name, part = view.parts[number][2][k]
    if part[0] in PLAIN:
        return "head"
    asked = view.asked.get(name, ())
    if len(asked) != 1 or view.parts[asked[0]][0] != "name" or view.edges[asked[0]] != view.edges[number]:
        return "named"
    # One that stands in a binding's part has another edge.
    return None


def once_part(view, number, k):
    let = view.parts[number]
    name, part = let[2][k]
    at = view.asked[name][0]
    now = ("now", view.parts[at][1], let[1], name, part)
    return without((*let[:3], exchanged(view, view.inner(number)[-1], at, now)), k)


def exchanged(view, number, at, part):
    """Tell a part with another one in the stead of one within it."""
    way = [(number, 0)]
    while way[-1][0] != at:
        step, inner = view.step_to(way[-1][0], at)
        way.append((inner, step))
    while len(way) > 1:
        _, step = way.pop()
        around = view.parts[way[-1][0]]
        parts = parts_within(around)
        parts[step] = part
        part = with_parts(around, parts)
    return part


def early_why(view, number, k):
    _, _, bindings, e = view.parts[number]
    name, part = bindings[0]
    if not is_lone(view, number):
        return "group"
    if part[0] in PLAIN:
        return "head"
    told = asked_first(e, view.known_names(), view.data)
    return None if told is not None and told[0] == name else "first"


def early_part(view, number, k):
    _, p, bindings, e = view.parts[number]
    name, part = bindings[0]
    _, q = asked_first(e, view.known_names(), view.data)
    return ("early", p, name, part, q, e)


WHYS = {
    "drop": drop_why,
    "known": known_why,
    "once": once_why,
    "past": past_why,
    "early": early_why,
    "put": put_why,
}
PARTS = {
    "drop": drop_part,
    "known": known_part,
    "once": once_part,
    "past": past_part,
    "early": early_part,
    "put": put_part,
}
