"""Walks over trees, with piles of their own in the stead of calls within calls."""


def binds(patterns):
    """Tell the list of (place, name) that some patterns bind, from the left."""
    return [(pattern[1], pattern[2]) for pattern in all_patterns(patterns) if pattern[0] == "bind"]


def all_patterns(patterns):
    """Tell the list of some patterns and of all within them."""
    told = []
    pile = list(reversed(patterns))
    while pile:
        pattern = pile.pop()
        told.append(pattern)
        if pattern[0] == "made":
            pile.extend(pattern[3][::-1])
    return told


def all_kinds(kinds):
    """Tell the list of some kinds of a tree and of all within them."""
    told = []
    pile = list(reversed(kinds))
    while pile:
        kind = pile.pop()
        told.append(kind)
        if kind[0] == "kind":
            pile.extend(kind[3][::-1])
        elif kind[0] == "to":
            pile.extend([kind[3], kind[2]])
    return told


def steps(defs):
    """Tell the list of all defs and expressions of some defs, in order, and where names are there for them.

    ("hide", names) and ("show", names) stand around all in which the names, tuples of (place, name), are bound.
    ("rule", place, patterns) stands ahead of each equation's and choice's own.
    """
    told = []
    pile = list(reversed(defs))
    while pile:
        step = pile.pop()
        told.append(step)
        if step[0] in WITHIN:
            steps_within = WITHIN[step[0]]
            pile.extend(steps_within(step)[::-1])
    return told


def hidden(names, told):
    """Tell some steps, with names bound around them."""
    return [("hide", names), *told, ("show", names)]


def rule_steps(place, patterns, sides):
    """Tell the steps of an equation or a choice."""
    told = []
    for guard, side in sides:
        if guard is not None:
            told.append(guard)
        told.append(side)
    return [("rule", place, patterns), *hidden(binds(patterns), told)]


def def_steps(step):
    told = []
    for place, patterns, sides in step[3]:
        told.extend(rule_steps(place, patterns, sides))
    return told


def call_steps(step):
    return [step[2], *step[3]]


def op_steps(step):
    return [step[3], step[4]]


def fun_steps(step):
    return hidden(list(step[2]), [step[3]])


def let_steps(step):
    return hidden([(one[1], one[2]) for one in step[2]], [*step[2], step[3]])


def if_steps(step):
    return [step[2], step[3], step[4]]


def case_steps(step):
    told = [step[2]]
    for place, pattern, sides in step[3]:
        told.extend(rule_steps(place, (pattern,), sides))
    return told


WITHIN = {
    "def": def_steps,
    "call": call_steps,
    "op": op_steps,
    "fun": fun_steps,
    "let": let_steps,
    "if": if_steps,
    "case": case_steps,
}


def free_names(defs):
    """Tell the list of (place, name) of the names in some defs that nothing within these binds."""
    told = []
    bound = {}
    for step in steps(defs):
        if step[0] == "hide":
            for _, name in step[1]:
                bound[name] = bound.get(name, 0) + 1
        elif step[0] == "show":
            for _, name in step[1]:
                bound[name] -= 1
        elif step[0] == "name" and bound.get(step[2], 0) == 0:
            told.append((step[1], step[2]))
    return told
