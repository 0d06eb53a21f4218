"""Texts made to cores: patterns to cases, and what is handed over to names and numbers.

It goes by a pile of what is still to do, and one of the parts that are done, as trees may be deep.
"""

from slumberway.judging import judged, read
from slumberway.lexemes import lexemes
from slumberway.matching import Matching, stem_of

DEEDS = {"+": "plus", "-": "less", "*": "times", "<": "below", "==": "same"}
TRUTH_LOT = (("False", 0), ("True", 0))


def core(text):
    """Tell the program of a text; refused as kinds is."""
    tree = read(text)
    judged(tree)
    return core_of(text, tree)


def core_of(text, tree):
    """Tell the program of a text's tree that was judged."""
    places = [place for place, _, _ in lexemes(text)]
    data = lots(tree)
    making = Making(places, data)
    defs = [line for line in tree if line[0] == "def"]
    env = {one[2]: one[2] for one in defs}
    return (places, data, [(one[2], making.top(one, env)) for one in defs])


def lots(tree):
    """Tell a dict from the makers that are there to their lots."""
    told = {maker: TRUTH_LOT for maker, _ in TRUTH_LOT}
    for line in tree:
        if line[0] == "data":
            lot = tuple([(maker, len(kinds)) for _, maker, kinds in line[4]])
            told.update({maker: lot for maker, _ in lot})
    return told


class Making:
    """The parts of a core so far. An env tells of a text's names those of the core."""

    def __init__(self, places, data):
        self.numbers = {place: number for number, place in enumerate(places)}
        self.counts = {maker: many for lot in data.values() for maker, many in lot}
        # Of each stem, the number of the last name made of it.
        self.names = {}
        self.done = []
        # What is still to do, the next one last.
        self.pile = []

    def top(self, one, env):
        """Tell the part of a top def."""
        self.to_do([("def", one, env)])
        while self.pile:
            word, *told = self.pile.pop()
            step = STEPS[word]
            step(self, *told)
        return self.done.pop()

    def to_do(self, tasks):
        self.pile.extend(tasks[::-1])

    def new_name(self, stem):
        """Make a name that is nowhere else."""
        self.names[stem] = self.names.get(stem, 0) + 1
        return f"{stem}.{self.names[stem]}"

    def take(self, many):
        """Tell the parts that were done last, and take them away."""
        at = len(self.done) - many
        told = self.done[at:]
        del self.done[at:]
        return told

    def atom(self, e, env):
        """Tell the atom of a number or a name."""
        p = self.numbers[e[1]]
        return ("num", p, e[2]) if e[0] == "num" else ("name", p, env[e[2]])

    def made(self, maker, atoms):
        """Tell the part of a maker with some atoms: a con, or where parts are lacking, a function of these."""
        p = self.numbers[maker[1]]
        names = tuple([self.new_name("part") for _ in range(self.counts[maker[2]] - len(atoms))])
        con = ("con", p, maker[2], (*atoms, *[("name", p, name) for name in names]))
        return ("fun", p, names, con) if names else con

    def begin_rules(self, matching, rules, env, behind):
        """Lay out what is to do for rules, (patterns, sides), and behind them."""
        tasks = []
        for patterns, sides in rules:
            if matching.may_come():
                bound = matching.begin_rule(patterns, sides)
                inner = {**env, **bound}
                tasks.extend([("e", e, inner) for side in sides for e in side if e is not None])
        self.to_do([*tasks, ("rules done", matching), *behind])


def is_atom(e):
    return e[0] in ("num", "name")


def def_step(making, one, env):
    _, place, _, equations = one
    p = making.numbers[place]
    names = tuple([making.new_name(stem_of(pattern)) for pattern in equations[0][1]])
    rules = [(patterns, sides) for _, patterns, sides in equations]
    behind = [("fun done", p, names)] if names else []
    making.begin_rules(Matching(making, p, names, None), rules, env, behind)


def rules_done_step(making, matching):
    parts = making.take(sum([rule.many for rule in matching.rules]))
    making.done.append(matching.part(parts))


def fun_done_step(making, p, names):
    making.done.append(("fun", p, names, making.done.pop()))


def e_step(making, e, env):
    begin = BEGIN[e[0]]
    begin(making, e, env)


def begin_atom(making, e, env):
    making.done.append(making.atom(e, env))


def begin_maker(making, e, env):
    making.done.append(making.made(e, ()))


def begin_call(making, e, env):
    _, _, function, told = e
    found = [part for part in told if not is_atom(part)]
    if function[0] not in ("name", "maker"):
        found.append(function)
    making.to_do([*[("e", part, env) for part in found], ("call done", e, env, len(found))])


def call_done_step(making, e, env, many):
    """Bind a call's parts that are no atoms, and call by names."""
    _, place, function, told = e
    p = making.numbers[place]
    parts = making.take(many)
    names = [making.new_name("thing") for _ in parts]
    bindings = tuple(zip(names, parts))
    atoms = []
    for part in told:
        atoms.append(making.atom(part, env) if is_atom(part) else ("name", p, names.pop(0)))
    if function[0] == "maker":
        call = making.made(function, tuple(atoms))
    else:
        atom = making.atom(function, env) if function[0] == "name" else ("name", p, names.pop(0))
        call = ("call", p, atom, tuple(atoms))
    making.done.append(("let", p, bindings, call) if bindings else call)


def begin_op(making, e, env):
    making.to_do([("e", e[3], env), ("e", e[4], env), ("op done", e)])


def op_done_step(making, e):
    one, other = making.take(2)
    making.done.append(("deed", making.numbers[e[1]], DEEDS[e[2]], one, other))


def begin_fun(making, e, env):
    names = tuple([making.new_name(name) for _, name in e[2]])
    inner = {**env, **{name: told for (_, name), told in zip(e[2], names)}}
    making.to_do([("e", e[3], inner), ("fun done", making.numbers[e[1]], names)])


def begin_let(making, e, env):
    names = [making.new_name(one[2]) for one in e[2]]
    inner = {**env, **{one[2]: told for one, told in zip(e[2], names)}}
    making.to_do([*[("def", one, inner) for one in e[2]], ("e", e[3], inner), ("let done", e, names)])


def let_done_step(making, e, names):
    *parts, inner = making.take(len(names) + 1)
    making.done.append(("let", making.numbers[e[1]], tuple(zip(names, parts)), inner))


def begin_if(making, e, env):
    making.to_do([("e", e[2], env), ("e", e[3], env), ("e", e[4], env), ("if done", e)])


def if_done_step(making, e):
    asked, one, other = making.take(3)
    alternatives = (("True", (), one), ("False", (), other))
    making.done.append(("case", making.numbers[e[1]], asked, making.new_name("head"), alternatives, None))


def begin_case(making, e, env):
    making.to_do([("e", e[2], env), ("choices", e, env)])


def choices_step(making, e, env):
    """Lay out the choices of a case whose thing is done: worked by the first pattern, where that asks, else bound."""
    _, place, _, choices = e
    p = making.numbers[place]
    asked = making.done.pop()
    if asked[0] == "name":
        matching = Matching(making, p, (asked[2],), None)
    elif choices[0][1][0] in ("num", "made"):
        matching = Matching(making, p, (None,), asked)
    else:
        x = making.new_name(stem_of(choices[0][1]))
        matching = Matching(making, p, (x,), None)
        matching.bind(x, asked)
    making.begin_rules(matching, [((pattern,), sides) for _, pattern, sides in choices], env, [])


STEPS = {
    "def": def_step,
    "e": e_step,
    "rules done": rules_done_step,
    "fun done": fun_done_step,
    "call done": call_done_step,
    "op done": op_done_step,
    "let done": let_done_step,
    "if done": if_done_step,
    "choices": choices_step,
}
BEGIN = {
    "num": begin_atom,
    "name": begin_atom,
    "maker": begin_maker,
    "call": begin_call,
    "op": begin_op,
    "fun": begin_fun,
    "let": begin_let,
    "if": begin_if,
    "case": begin_case,
}
