"""The kinds of trees once more, written from the document in another way: by calls within calls and exchanged letters.

A kind is a letter, told by a number, or a tuple of a word and parts. Met demands are a dict from letters to kinds.
"""

NUM = ("Num",)
TRUTH = ("Truth",)


def bound_in(pattern):
    if pattern[0] == "bind":
        return [pattern[2]]
    return [name for part in pattern[3] for name in bound_in(part)] if pattern[0] == "made" else []


def free(e):
    """Tells the set of names that stand free in an expression or def."""
    word = e[0]
    if word == "name":
        return {e[2]}
    if word in ("num", "maker"):
        return set()
    if word == "call":
        return set().union(free(e[2]), *[free(part) for part in e[3]])
    if word == "op":
        return free(e[3]) | free(e[4])
    if word == "fun":
        return free(e[3]) - {name for _, name in e[2]}
    if word == "let":
        return set().union(free(e[3]), *[free(one) for one in e[2]]) - {one[2] for one in e[2]}
    if word == "if":
        return free(e[2]) | free(e[3]) | free(e[4])
    rules = e[3]
    told = free(e[2]) if word == "case" else set()
    for _, patterns, sides in rules:
        patterns = (patterns,) if word == "case" else patterns
        used = set().union(*[free(part) for side in sides for part in side if part is not None])
        told |= used - {name for pattern in patterns for name in bound_in(pattern)}
    return told


def groups(tree):
    """Tells the groups as lists of defs, in order."""
    defs = [line for line in tree if line[0] == "def"]
    tops = [one[2] for one in defs]
    uses = {(one[2], name) for one in defs for name in free(one) if name in tops}
    for middle in tops:
        for one in tops:
            for other in tops:
                if (one, middle) in uses and (middle, other) in uses:
                    uses.add((one, other))
    told, done = [], set()
    while len(done) < len(tops):
        for one in tops:
            group = [other for other in tops if other == one or (one, other) in uses and (other, one) in uses]
            needs = {other for name in group for other in tops if (name, other) in uses} - set(group)
            if one not in done and needs <= done:
                told.append([line for line in defs if line[2] in group])
                done |= set(group)
                break
    return told


class Second:
    """Tells a tree's groups, their demands, and what comes of them."""

    def __init__(self, tree):
        self.count = 0
        self.makers = {"True": ((), (), TRUTH), "False": ((), (), TRUTH)}
        for line in tree:
            if line[0] == "data":
                letters = tuple(name for _, name in line[3])
                for _, maker, kinds in line[4]:
                    self.makers[maker] = (letters, kinds, line[2])
        self.schemes = {}
        self.at = {}
        self.demands = []
        self.told = []
        self.fault = None
        for group in groups(tree):
            self.judge(group)
            if self.fault is not None:
                break

    def judge(self, group):
        self.demands = []
        env = {one[2]: self.def_kind(one) for one in group}
        for one in group:
            self.one_def(one, env)
        self.told.append((group, self.demands))
        for number in range(len(self.demands)):
            verdict, met = meets(self.demands[:number + 1])
            if verdict != "fine":
                self.fault = (number, verdict, meets(self.demands[:number])[1])
                return
        verdict, met = meets(self.demands)
        for one in group:
            self.schemes[one[2]] = whole(env[one[2]], met)
        for key in list(self.at):
            if self.at[key][1] is None:
                self.at[key] = (whole(self.at[key][0], met), group)

    def letter(self):
        self.count += 1
        return self.count

    def def_kind(self, one):
        parts = [self.letter() for _ in one[3][0][1]]
        return leading(parts, self.letter())

    def anew(self, kind):
        table = {}

        def exchange(kind):
            if isinstance(kind, int):
                return table.setdefault(kind, self.letter())
            return (kind[0], *[exchange(part) for part in kind[1:]])
        return exchange(kind)

    def maker(self, word):
        letters, kinds, data = self.makers[word]
        if data == TRUTH:
            return [], TRUTH
        table = {name: self.letter() for name in letters}

        def exchange(kind):
            if kind[0] == "letter":
                return table[kind[2]]
            if kind[0] == "to":
                return ("->", exchange(kind[2]), exchange(kind[3]))
            return (kind[2], *[exchange(part) for part in kind[3]])
        return [exchange(kind) for kind in kinds], (data, *[table[name] for name in letters])

    def one_def(self, one, env):
        for _, patterns, sides in one[3]:
            kind = env[one[2]]
            inner = dict(env)
            for pattern in patterns:
                self.pattern(pattern, kind[1], inner)
                kind = kind[2]
            self.sides(sides, kind, inner)

    def pattern(self, pattern, kind, env):
        if pattern[0] == "bind":
            env[pattern[2]] = kind
        if pattern[0] == "num":
            self.demands.append((pattern[1], kind, NUM))
        if pattern[0] == "made":
            parts, own = self.maker(pattern[2])
            for part, part_kind in zip(pattern[3], parts):
                self.pattern(part, part_kind, env)
            self.demands.append((pattern[1], kind, own))

    def sides(self, sides, kind, env):
        for guard, side in sides:
            if guard is not None:
                self.demands.append((guard[1], self.expr(guard, env), TRUTH))
            told = self.expr(side, env)
            self.demands.append((side[1], told, kind))

    def expr(self, e, env):
        kind = getattr(self, "do_" + e[0])(e, env)
        self.at[(e[0], e[1])] = (kind, None)
        return kind

    def do_num(self, e, env):
        return NUM

    def do_name(self, e, env):
        return env[e[2]] if e[2] in env else self.anew(self.schemes[e[2]])

    def do_maker(self, e, env):
        parts, own = self.maker(e[2])
        return leading(parts, own)

    def do_call(self, e, env):
        kind = self.expr(e[2], env)
        parts = [self.expr(part, env) for part in e[3]]
        for part, part_kind in zip(e[3], parts):
            letter = self.letter()
            self.demands.append((part[1], kind, ("->", part_kind, letter)))
            kind = letter
        return kind

    def do_op(self, e, env):
        left = self.expr(e[3], env)
        right = self.expr(e[4], env)
        self.demands.append((e[3][1], left, NUM))
        self.demands.append((e[4][1], right, NUM))
        return NUM if e[2] in "+-*" else TRUTH

    def do_fun(self, e, env):
        letters = {name: self.letter() for _, name in e[2]}
        return leading(list(letters.values()), self.expr(e[3], {**env, **letters}))

    def do_let(self, e, env):
        inner = {**env, **{one[2]: self.def_kind(one) for one in e[2]}}
        for one in e[2]:
            self.one_def(one, inner)
        return self.expr(e[3], inner)

    def do_if(self, e, env):
        asked, one, other = [self.expr(part, env) for part in e[2:]]
        self.demands.append((e[2][1], asked, TRUTH))
        self.demands.append((e[4][1], other, one))
        return one

    def do_case(self, e, env):
        thing = self.expr(e[2], env)
        letter = self.letter()
        for _, pattern, sides in e[3]:
            inner = dict(env)
            self.pattern(pattern, thing, inner)
            self.sides(sides, letter, inner)
        return letter


def leading(parts, last):
    for part in parts[::-1]:
        last = ("->", part, last)
    return last


def step(kind, met):
    while isinstance(kind, int) and kind in met:
        kind = met[kind]
    return kind


def meets(demands):
    """Tells "fine", "clash" or "endless" of some demands, and the letters exchanged."""
    met, seen = {}, set()

    def meet(one, other):
        one, other = step(one, met), step(other, met)
        if one == other or (one, other) in seen:
            return True
        seen.add((one, other))
        if isinstance(one, int):
            met[one] = other
            return True
        if isinstance(other, int):
            met[other] = one
            return True
        if one[0] != other[0] or len(one) != len(other):
            return False
        return all([meet(part, other_part) for part, other_part in zip(one[1:], other[1:])])

    def ends(kind, above):
        kind = step(kind, met)
        if isinstance(kind, int):
            return True
        return kind not in above and all(ends(part, above | {kind}) for part in kind[1:])

    if not all([meet(one, other) for _, one, other in demands]):
        return "clash", met
    if not all(ends(letter, frozenset()) for letter in list(met)):
        return "endless", met
    return "fine", met


def whole(kind, met):
    kind = step(kind, met)
    return kind if isinstance(kind, int) else (kind[0], *[whole(part, met) for part in kind[1:]])


LETTERS = [one + other for one in ["", *"abcdefghijklmnopqrstuvwxyz"] for other in "abcdefghijklmnopqrstuvwxyz"]


def text_of(kind, names):
    """Tells the text of a kind; names is given the letters that come anew."""
    if isinstance(kind, int):
        return names.setdefault(kind, LETTERS[len(names)])
    if kind[0] == "->":
        left = text_of(kind[1], names)
        return ("(" + left + ")" if isinstance(kind[1], tuple) and kind[1][0] == "->" else left) + " -> " \
            + text_of(kind[2], names)
    told = kind[0]
    for part in kind[1:]:
        text = text_of(part, names)
        told += " (" + text + ")" if isinstance(part, tuple) and len(part) > 1 else " " + text
    return told
