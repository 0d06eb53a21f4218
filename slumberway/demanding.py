"""The demands of a group: pairs of kinds that must be the same, as its defs' expressions and patterns make them."""

from slumberway.solving import NUM, TRUTH
from slumberway.walks import binds

NUMBERS = ("+", "-", "*")
LEAVES = ("num", "name", "maker")


def maker_shapes(tree):
    """Tell a dict from the makers of a tree to (kind's word, its letters, kinds of the parts)."""
    told = {"True": ("Truth", (), ()), "False": ("Truth", (), ())}
    for line in tree:
        if line[0] == "data":
            letters = tuple([name for _, name in line[3]])
            for _, maker, kinds in line[4]:
                told[maker] = (line[2], letters, kinds)
    return told


def key_of(e):
    """Tell by what the kind of an expression is kept: no two of one word have one place."""
    return (e[0], e[1])


class Demanding:
    """The kinds and demands of groups, each made by the tops that are there already."""

    def __init__(self, solver, makers):
        self.solver = solver
        self.makers = makers
        # The kinds of the tops of groups that are done, and of all expressions so far.
        self.tops = {}
        self.kinds = {}
        # Of each name that is there, the kinds of all that bear it, the innermost last.
        self.names = {}
        self.demands = []
        # What is still to do, the next one last.
        self.pile = []

    def group_demands(self, defs):
        """Tell the demands of a group, (place, one, other), and a dict from its names to their kinds."""
        self.demands = []
        self.begin_defs(defs, [])
        kinds = {one[2]: self.names[one[2]][-1] for one in defs}
        while self.pile:
            task = self.pile.pop()
            step = STEPS[task[0]]
            step(self, task)
        self.unbind(list(kinds))
        return (self.demands, kinds)

    def to_do(self, tasks):
        self.pile.extend(tasks[::-1])

    def begin_parts(self, parts, behind):
        """Lay out the parts of an expression, and what is to do behind them; what has no parts itself is done now."""
        self.pile.extend(behind[::-1])
        for e in parts[::-1]:
            if e[0] in LEAVES:
                step = STEPS[e[0]]
                step(self, e)
            else:
                self.pile.append(e)

    def kind(self, e):
        """Tell the kind of an expression that was gone by."""
        return self.kinds[key_of(e)]

    def keep(self, e, kind):
        self.kinds[key_of(e)] = kind

    def demand(self, place, one, other):
        self.demands.append((place, one, other))

    def letters(self, many):
        return [self.solver.letter() for _ in range(many)]

    def bind(self, name, kind):
        self.names.setdefault(name, []).append(kind)

    def unbind(self, names):
        for name in names:
            self.names[name].pop()

    def name_kind(self, name):
        """Tell the kind of a name: its own, but anew of a top of another group."""
        if self.names.get(name):
            return self.names[name][-1]
        return self.solver.anew(self.solver.pieces(self.tops[name]))

    def maker_kinds(self, maker):
        """Tell the kinds of a maker's parts and of its data, with letters of their own."""
        word, names, kinds = self.makers[maker]
        letters = {name: self.solver.letter() for name in names}
        return ([self.told_kind(kind, letters) for kind in kinds], self.solver.made(word, tuple(letters.values())))

    def told_kind(self, kind, letters):
        """Tell the kind that stands in a data."""
        made = []
        pile = [(kind, False)]
        while pile:
            kind, left = pile.pop()
            if kind[0] == "letter":
                made.append(letters[kind[2]])
                continue
            word, parts = ("->", kind[2:]) if kind[0] == "to" else kind[2:]
            if left:
                at = len(made) - len(parts)
                made[at:] = [self.solver.made(word, tuple(made[at:]))]
            else:
                pile.append((kind, True))
                pile.extend([(part, False) for part in reversed(parts)])
        return made[0]

    def begin_defs(self, defs, behind):
        """Bind the names of some defs, and lay out what is to do for them, and behind them."""
        tasks = []
        for one in defs:
            letters = self.letters(len(one[3][0][1]))
            side = self.solver.letter()
            self.bind(one[2], self.solver.leading(letters, side))
            tasks.extend([("equation", equation, letters, side) for equation in one[3]])
        self.to_do([*tasks, *behind])

    def begin_rule(self, patterns, kinds, sides, side_kind):
        """Lay out what is to do for an equation or a choice."""
        tasks = [("pattern", pattern, kind) for pattern, kind in zip(patterns, kinds)]
        for guard, side in sides:
            if guard is not None:
                tasks.extend([guard, ("same", guard, TRUTH)])
            tasks.extend([side, ("same", side, side_kind)])
        self.to_do([*tasks, ("unbind", [name for _, name in binds(patterns)])])


def equation_step(demanding, task):
    _, (_, patterns, sides), letters, side = task
    demanding.begin_rule(patterns, letters, sides, side)


def pattern_step(demanding, task):
    _, pattern, kind = task
    if pattern[0] == "bind":
        demanding.bind(pattern[2], kind)
    elif pattern[0] == "num":
        demanding.demand(pattern[1], kind, NUM)
    elif pattern[0] == "made":
        parts, whole = demanding.maker_kinds(pattern[2])
        tasks = [("pattern", part, part_kind) for part, part_kind in zip(pattern[3], parts)]
        demanding.to_do([*tasks, ("demand", pattern[1], kind, whole)])


def demand_step(demanding, task):
    _, place, one, other = task
    demanding.demand(place, one, other)


def same_step(demanding, task):
    _, e, kind = task
    demanding.demand(e[1], demanding.kind(e), kind)


def unbind_step(demanding, task):
    demanding.unbind(task[1])


def num_step(demanding, e):
    demanding.keep(e, NUM)


def name_step(demanding, e):
    demanding.keep(e, demanding.name_kind(e[2]))


def maker_step(demanding, e):
    parts, whole = demanding.maker_kinds(e[2])
    demanding.keep(e, demanding.solver.leading(parts, whole))


def call_step(demanding, e):
    demanding.begin_parts((e[2], *e[3]), (("called", e),))


def called_step(demanding, task):
    _, e = task
    kind = demanding.kind(e[2])
    for part in e[3]:
        letter = demanding.solver.letter()
        demanding.demand(part[1], kind, demanding.solver.leading([demanding.kind(part)], letter))
        kind = letter
    demanding.keep(e, kind)


def op_step(demanding, e):
    _, _, sign, left, right = e
    demanding.keep(e, NUM if sign in NUMBERS else TRUTH)
    demanding.begin_parts((left, right), (("same", left, NUM), ("same", right, NUM)))


def fun_step(demanding, e):
    names = [name for _, name in e[2]]
    letters = demanding.letters(len(names))
    for name, letter in zip(names, letters):
        demanding.bind(name, letter)
    demanding.to_do([e[3], ("unbind", names), ("fun done", e, letters)])


def fun_done_step(demanding, task):
    _, e, letters = task
    demanding.keep(e, demanding.solver.leading(letters, demanding.kind(e[3])))


def let_step(demanding, e):
    names = [one[2] for one in e[2]]
    demanding.begin_defs(e[2], [e[3], ("unbind", names), ("as", e, e[3])])


def as_step(demanding, task):
    _, e, part = task
    demanding.keep(e, demanding.kind(part))


def if_step(demanding, e):
    _, _, asked, one, other = e
    demanding.begin_parts(e[2:], (("same", asked, TRUTH), ("alike", other, one), ("as", e, one)))


def alike_step(demanding, task):
    _, e, other = task
    demanding.demand(e[1], demanding.kind(e), demanding.kind(other))


def case_step(demanding, e):
    demanding.to_do([e[2], ("choices", e)])


def choices_step(demanding, task):
    _, e = task
    letter = demanding.solver.letter()
    demanding.keep(e, letter)
    thing = demanding.kind(e[2])
    demanding.to_do([("choice", choice, thing, letter) for choice in e[3]])


def choice_step(demanding, task):
    _, (_, pattern, sides), thing, letter = task
    demanding.begin_rule((pattern,), (thing,), sides, letter)


# The words of expressions, and of what else is to do.
STEPS = {
    "num": num_step,
    "name": name_step,
    "maker": maker_step,
    "call": call_step,
    "op": op_step,
    "fun": fun_step,
    "let": let_step,
    "if": if_step,
    "case": case_step,
    "equation": equation_step,
    "pattern": pattern_step,
    "demand": demand_step,
    "same": same_step,
    "unbind": unbind_step,
    "called": called_step,
    "fun done": fun_done_step,
    "as": as_step,
    "alike": alike_step,
    "choices": choices_step,
    "choice": choice_step,
}
