"""Texts made to cores: patterns to cases, and what is handed over to names and numbers.

It goes by a pile of what is still to do, and one of the parts that are done, as trees may be deep.
"""

from slumberway.judging import judged
from slumberway.lexemes import laid
from slumberway.matching import Matching, stem_of
from slumberway.reader import tree_of_laid

DEEDS = {"+": "plus", "-": "less", "*": "times", "<": "below", "==": "same"}
TRUTH_LOT = (("False", 0), ("True", 0))
# Expressions that are handed over as they are.
ATOMS = ("num", "name")


def core(text):
    """Tell the program of a text; refused as kinds is."""
    told = laid(text)
    tree = tree_of_laid(told)
    judged(tree, False)
    return core_of(told, tree)


def core_of(told, tree):
    """Tell the program of a text's lexemes and marks, and of their tree, that was judged."""
    places = [place for place, sort, _ in told if sort != "mark"]
    data = lots(tree)
    making = Making(places, data)
    defs = [line for line in tree if line[0] == "def"]
    env = {one[2]: one[2] for one in defs}
    return (places, data, [(one[2], making.top(one, env)) for one in defs])


def lots(tree):
    """Tell a dict from the makers that are there to their lots."""
    told = {maker: TRUTH_LOT for maker, _ in TRUTH_LOT}
    for line in tree:
        if line[0] == "data":
            lot = tuple([(maker, len(kinds)) for _, maker, kinds in line[4]])
            told.update({maker: lot for maker, _ in lot})
    return told


class Making:
    """The parts of a core so far. An env tells of a text's names those of the core."""

    def __init__(self, places, data):
        self.numbers = {place: number for number, place in enumerate(places)}
        self.counts = {maker: many for lot in data.values() for maker, many in lot}
        # Of each stem, the number of the last name made of it.
        self.names = {}
        self.done = []
        # What is still to do, the next one last: a word, and two things that hang on it.
        self.pile = []

    def top(self, one, env):
        """Tell the part of a top def."""
        pile = self.pile
        pile.append(("def", one, env))
        while pile:
            word, thing, other = pile.pop()
            step = STEPS[word]
            step(self, thing, other)
        return self.done.pop()

    def to_do(self, parts, env):
        """Lay out expressions that are to be done next, in order."""
        self.pile.extend([(e[0], e, env) for e in parts[::-1]])

    def new_name(self, stem):
        """Make a name that is nowhere else."""
        number = self.names.get(stem, 0) + 1
        self.names[stem] = number
        return f"{stem}.{number}"

    def take(self, many):
        """Tell the parts that were done last, and take them away."""
        at = len(self.done) - many
        told = self.done[at:]
        del self.done[at:]
        return told

    def atom(self, e, env):
        """Tell the atom of a number or a name."""
        p = self.numbers[e[1]]
        return ("num", p, e[2]) if e[0] == "num" else ("name", p, env[e[2]])

    def made(self, maker, atoms):
        """Tell the part of a maker with some atoms: a con, or where parts are lacking, a function of these."""
        p = self.numbers[maker[1]]
        lacking = self.counts[maker[2]] - len(atoms)
        if lacking == 0:
            return ("con", p, maker[2], atoms)
        names = tuple([self.new_name("part") for _ in range(lacking)])
        return ("fun", p, names, ("con", p, maker[2], (*atoms, *[("name", p, name) for name in names])))

    def begin_rules(self, matching, rules, env):
        """Lay out what is to do for rules, (patterns, sides)."""
        self.pile.append(("rules done", matching, None))
        tasks = []
        for patterns, sides in rules:
            if matching.may_come():
                bound = matching.begin_rule(patterns, sides)
                inner = {**env, **bound} if bound else env
                for side in sides:
                    tasks.extend([(e[0], e, inner) for e in side if e is not None])
        self.pile.extend(tasks[::-1])


def def_step(making, one, env):
    _, place, _, equations = one
    p = making.numbers[place]
    names = tuple([making.new_name(stem_of(pattern)) for pattern in equations[0][1]])
    if names:
        making.pile.append(("fun done", p, names))
    making.begin_rules(Matching(making, p, names, None), [equation[1:] for equation in equations], env)


def rules_done_step(making, matching, _):
    parts = making.take(sum([rule.many for rule in matching.rules]))
    making.done.append(matching.part(parts))


def fun_done_step(making, p, names):
    making.done.append(("fun", p, names, making.done.pop()))


def atom_step(making, e, env):
    making.done.append(making.atom(e, env))


def maker_step(making, e, env):
    making.done.append(making.made(e, ()))


def call_step(making, e, env):
    _, _, function, told = e
    found = [part for part in told if part[0] not in ATOMS]
    if function[0] not in ("name", "maker"):
        found.append(function)
    making.pile.append(("call done", e, (env, len(found))))
    if found:
        making.to_do(found, env)


def call_done_step(making, e, behind):
    """Bind a call's parts that are no atoms, and call by names."""
    env, many = behind
    _, place, function, told = e
    p = making.numbers[place]
    parts = making.take(many) if many else []
    names = [making.new_name("thing") for _ in parts]
    bindings = tuple(zip(names, parts))
    atoms = []
    for part in told:
        atoms.append(making.atom(part, env) if part[0] in ATOMS else ("name", p, names.pop(0)))
    if function[0] == "maker":
        call = making.made(function, tuple(atoms))
    else:
        atom = making.atom(function, env) if function[0] == "name" else ("name", p, names.pop(0))
        call = ("call", p, atom, tuple(atoms))
    making.done.append(("let", p, bindings, call) if bindings else call)


def op_step(making, e, env):
    _, _, _, one, other = e
    if one[0] in ATOMS and other[0] in ATOMS:
        making.done.extend([making.atom(one, env), making.atom(other, env)])
        op_done_step(making, e, env)
    else:
        making.pile.extend([("op done", e, env), (other[0], other, env), (one[0], one, env)])


def op_done_step(making, e, env):
    other, one = making.done.pop(), making.done.pop()
    making.done.append(("deed", making.numbers[e[1]], DEEDS[e[2]], one, other))


def fun_step(making, e, env):
    names = tuple([making.new_name(name) for _, name in e[2]])
    inner = {**env, **{name: told for (_, name), told in zip(e[2], names)}}
    making.pile.append(("fun done", making.numbers[e[1]], names))
    making.to_do((e[3],), inner)


def let_step(making, e, env):
    names = [making.new_name(one[2]) for one in e[2]]
    inner = {**env, **{one[2]: told for one, told in zip(e[2], names)}}
    making.pile.append(("let done", e, names))
    making.to_do((*e[2], e[3]), inner)


def let_done_step(making, e, names):
    *parts, inner = making.take(len(names) + 1)
    making.done.append(("let", making.numbers[e[1]], tuple(zip(names, parts)), inner))


def if_step(making, e, env):
    making.pile.append(("if done", e, None))
    making.to_do(e[2:], env)


def if_done_step(making, e, _):
    asked, one, other = making.take(3)
    alternatives = (("True", (), one), ("False", (), other))
    making.done.append(("case", making.numbers[e[1]], asked, making.new_name("head"), alternatives, None))


def case_step(making, e, env):
    making.pile.append(("choices", e, env))
    making.to_do((e[2],), env)


def choices_step(making, e, env):
    """Lay out the choices of a case whose thing is done: worked by the first pattern, where that asks, else bound."""
    _, place, _, choices = e
    p = making.numbers[place]
    asked = making.done.pop()
    if asked[0] == "name":
        matching = Matching(making, p, (asked[2],), None)
    elif choices[0][1][0] in ("num", "made"):
        matching = Matching(making, p, (None,), asked)
    else:
        x = making.new_name(stem_of(choices[0][1]))
        matching = Matching(making, p, (x,), None)
        matching.bind(x, asked)
    making.begin_rules(matching, [((pattern,), sides) for _, pattern, sides in choices], env)


# The words of expressions and defs, and of what is done behind their parts.
STEPS = {
    "def": def_step,
    "num": atom_step,
    "name": atom_step,
    "maker": maker_step,
    "call": call_step,
    "op": op_step,
    "fun": fun_step,
    "let": let_step,
    "if": if_step,
    "case": case_step,
    "rules done": rules_done_step,
    "fun done": fun_done_step,
    "call done": call_done_step,
    "op done": op_done_step,
    "let done": let_done_step,
    "if done": if_done_step,
    "choices": choices_step,
}
