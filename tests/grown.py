"""Makes trees at random whose names are there and whose kinds fit, and bends them.

Kinds are tuples here, a word and parts: ("Num",), ("List", ("Num",)), ("->", one, other). Places are all (0, 0).
"""

NUM = ("Num",)
TRUTH = ("Truth",)
PLACE = (0, 0)
NAMES = ["a", "b", "c", "x", "y", "rest", "longname"]

# Of each data: its letters, and its makers with the kinds of their parts.
DATAS = {
    "Color": ((), (("Red", ()), ("Green", ()), ("Blue", ()))),
    "List": (("a",), (("Nil", ()), ("Cons", ("a", ("List", "a"))))),
    "Pair": (("a", "b"), (("Pair", ("a", "b")),)),
    "Tree": (("x",), (("Leaf", ()), ("Node", (("Tree", "x"), "x", ("Tree", "x"))))),
    "Act": (("a",), (("Act", (("->", "a", "a"), "a")), ("Rest", ()))),
}


def filled(kind, letters):
    if isinstance(kind, str):
        return letters[kind]
    return (kind[0], *[filled(part, letters) for part in kind[1:]])


def makers_of(kind):
    """Tells of a kind its makers with the kinds of their parts."""
    if kind == TRUTH:
        return [("True", ()), ("False", ())]
    if kind[0] not in DATAS:
        return []
    letters, makers = DATAS[kind[0]]
    table = dict(zip(letters, kind[1:]))
    return [(maker, tuple(filled(part, table) for part in parts)) for maker, parts in makers]


def split(kind, many):
    parts = []
    while kind[0] == "->" and len(parts) < many:
        parts.append(kind[1])
        kind = kind[2]
    return parts, kind


def arrows(parts, last):
    for part in reversed(parts):
        last = ("->", part, last)
    return last


def tree_kind(kind):
    if isinstance(kind, str):
        return ("letter", PLACE, kind)
    if kind[0] == "->":
        return ("to", PLACE, tree_kind(kind[1]), tree_kind(kind[2]))
    return ("kind", PLACE, kind[0], tuple(tree_kind(part) for part in kind[1:]))


def data_line(word):
    letters, makers = DATAS[word]
    made = tuple((PLACE, maker, tuple(tree_kind(part) for part in parts)) for maker, parts in makers)
    return ("data", PLACE, word, tuple((PLACE, letter) for letter in letters), made)


class Grower:
    """Grows trees; what it draws comes of the chance it is given alone."""

    def __init__(self, chance, depth=4):
        self.chance = chance
        self.depth = depth

    def tree(self, many):
        chance = self.chance
        tops = chance.sample(["f", "g", "h", "main", "map", "go"], many)
        env = {name: self.def_kind() for name in tops}
        lines = [data_line(word) for word in DATAS]
        lines.extend([self.one_def(name, env[name], env, self.depth) for name in tops])
        if chance.random() < 0.3:
            chance.shuffle(lines)
        return tuple(lines)

    def ground(self, depth=2):
        chance = self.chance
        word = chance.choice(["Num", "Num", "Num", "Truth", "Color", "List", "List", "Pair", "Tree", "Act", "->"])
        if depth == 0 or word in ("Num", "Truth", "Color"):
            return (word,) if word in ("Num", "Truth", "Color") else NUM
        if word in ("Pair", "->"):
            return (word, self.ground(depth - 1), self.ground(depth - 1))
        return (word, self.ground(depth - 1))

    def def_kind(self):
        return arrows([self.ground() for _ in range(self.chance.choice([0, 1, 1, 2, 2, 3]))], self.ground(1))

    def one_def(self, name, kind, env, depth):
        chance = self.chance
        most = len(split(kind, 8)[0])
        parts, result = split(kind, chance.choice([most, most, chance.randint(0, most)]))
        rows = 1 if not parts and chance.random() < 0.8 else chance.choice([1, 1, 2, 2, 3, 4])
        equations = []
        for _ in range(rows):
            patterns, inner = self.patterns(parts, env)
            equations.append((PLACE, patterns, self.sides(result, inner, depth)))
        return ("def", PLACE, name, tuple(equations))

    def patterns(self, kinds, env):
        bound = {}
        patterns = tuple(self.pattern(kind, bound, 2) for kind in kinds)
        return patterns, {**env, **bound}

    def pattern(self, kind, bound, depth):
        chance = self.chance
        free = [name for name in NAMES if name not in bound]
        roll = chance.random()
        if roll < 0.12 or not free:
            return ("any", PLACE)
        makers = makers_of(kind)
        if kind == NUM and roll < 0.45:
            return ("num", PLACE, chance.choice([0, 0, 1, 2, 12]))
        if makers and roll < 0.8 and depth:
            maker, parts = chance.choice(makers)
            return ("made", PLACE, maker, tuple(self.pattern(part, bound, depth - 1) for part in parts))
        name = chance.choice(free)
        bound[name] = kind
        return ("bind", PLACE, name)

    def sides(self, kind, env, depth):
        if self.chance.random() < 0.75:
            return ((None, self.expr(kind, env, depth - 1)),)
        return tuple((self.expr(TRUTH, env, min(depth - 1, 1)), self.expr(kind, env, depth - 1))
                     for _ in range(self.chance.choice([1, 2, 2, 3])))

    def expr(self, kind, env, depth):
        chance = self.chance
        ways = [self.plain, self.plain]
        if depth > 0:
            ways = [self.plain, self.use, self.use, self.use, self.choose, self.cases, self.cases, self.bound]
            if chance.random() < 0.1:
                ways = [self.applied]
        return chance.choice(ways)(kind, env, depth)

    def plain(self, kind, env, depth):
        """Something that is made of the kind itself, or a name."""
        chance = self.chance
        names = [name for name, other in env.items() if other == kind]
        if names and chance.random() < 0.5:
            return ("name", PLACE, chance.choice(names))
        if kind == NUM:
            if depth > 0 and chance.random() < 0.6:
                sign = chance.choice("+-*")
                return ("op", PLACE, sign, self.expr(NUM, env, depth - 1), self.expr(NUM, env, depth - 1))
            return ("num", PLACE, chance.choice([0, 1, 1, 2, 3, 12, 10 ** 29]))
        if kind == TRUTH and depth > 0 and chance.random() < 0.7:
            sign = chance.choice(["<", "=="])
            return ("op", PLACE, sign, self.expr(NUM, env, depth - 1), self.expr(NUM, env, depth - 1))
        if kind[0] == "->":
            return self.function(kind, env, depth)
        maker, parts = chance.choice(makers_of(kind)) if depth > 0 else makers_of(kind)[0]
        if not parts:
            return ("maker", PLACE, maker)
        return ("call", PLACE, ("maker", PLACE, maker), tuple(self.expr(part, env, depth - 1) for part in parts))

    def function(self, kind, env, depth):
        chance = self.chance
        makers = [maker for maker, parts in self.makers_to(kind)]
        if makers and chance.random() < 0.3:
            return ("maker", PLACE, chance.choice(makers))
        fitting = [name for name, other in env.items() if other[0] == "->" and kind in tails(other)[1:]]
        if fitting and depth > 0 and chance.random() < 0.5:
            return self.called(chance.choice(fitting), kind, env, depth)
        return self.fun(kind, env, depth)

    def makers_to(self, kind):
        """The makers that are of a function's kind themselves."""
        return [(maker, parts) for maker, parts in makers_of(tails(kind)[-1]) if arrows(parts, tails(kind)[-1]) == kind]

    def fun(self, kind, env, depth):
        parts, result = split(kind, self.chance.choice([1, 2, 8]))
        names = self.chance.sample(NAMES, len(parts))
        inner = {**env, **dict(zip(names, parts))}
        return ("fun", PLACE, tuple((PLACE, name) for name in names), self.expr(result, inner, depth - 1))

    def use(self, kind, env, depth):
        """A call of a name or maker that comes to the kind."""
        found = [name for name, other in env.items() if kind in tails(other)[1:]]
        if found:
            return self.called(self.chance.choice(found), kind, env, depth)
        return self.plain(kind, env, depth)

    def called(self, name, kind, env, depth):
        parts = []
        other = env[name]
        while other != kind:
            parts.append(other[1])
            other = other[2]
        return ("call", PLACE, ("name", PLACE, name), tuple(self.expr(part, env, depth - 1) for part in parts))

    def applied(self, kind, env, depth):
        """A call of what is no name: a function, a call, a maker with fewer arguments."""
        other = self.ground(1)
        function = self.expr(("->", other, kind), env, depth - 1)
        return ("call", PLACE, function, (self.expr(other, env, depth - 1),))

    def choose(self, kind, env, depth):
        return ("if", PLACE, self.expr(TRUTH, env, depth - 1), self.expr(kind, env, depth - 1),
                self.expr(kind, env, depth - 1))

    def cases(self, kind, env, depth):
        asked = self.ground()
        choices = []
        for _ in range(self.chance.choice([1, 2, 2, 3, 4])):
            (pattern,), inner = self.patterns([asked], env)
            choices.append((PLACE, pattern, self.sides(kind, inner, depth - 1)))
        return ("case", PLACE, self.expr(asked, env, depth - 1), tuple(choices))

    def bound(self, kind, env, depth):
        names = self.chance.sample(NAMES, self.chance.choice([1, 1, 2, 3]))
        kinds = {name: self.def_kind() for name in names}
        inner = {**env, **kinds}
        defs = tuple(self.one_def(name, kinds[name], inner, depth - 1) for name in names)
        return ("let", PLACE, defs, self.expr(kind, inner, depth - 1))


def tails(kind):
    told = [kind]
    while kind[0] == "->":
        kind = kind[2]
        told.append(kind)
    return told


def spots(thing, path=()):
    """Tells the paths of all expressions and patterns in a tree's tuples (nums of both)."""
    told = []
    if isinstance(thing, tuple):
        if thing and thing[0] in ("num", "name", "maker", "call", "op", "fun", "let", "if", "case", "any", "bind",
                                  "made") and len(thing) > 1 and thing[1] == PLACE:
            told.append(path)
        for number, part in enumerate(thing):
            told.extend(spots(part, path + (number,)))
    return told


def part_of(thing, path):
    for number in path:
        thing = thing[number]
    return thing


def exchanged(thing, path, part):
    if not path:
        return part
    return (*thing[:path[0]], exchanged(thing[path[0]], path[1:], part), *thing[path[0] + 1:])


EXPRESSIONS = ("name", "maker", "call", "op", "fun", "let", "if", "case")
PATTERNS = ("any", "bind", "made")


def bent(chance, tree):
    """Tells a tree with one expression or pattern in another one's stead; its kinds may fit no more."""
    found = spots(tree)
    path = chance.choice(found)
    words = PATTERNS if part_of(tree, path)[0] in PATTERNS else EXPRESSIONS
    if part_of(tree, path)[0] == "num":
        return exchanged(tree, path, ("num", PLACE, 5))
    others = [other for other in found if part_of(tree, other)[0] in words]
    part = part_of(tree, chance.choice(others))
    if chance.random() < 0.3 and words == EXPRESSIONS:
        part = chance.choice([("maker", PLACE, "True"), ("num", PLACE, 7), ("maker", PLACE, "Cons"),
                              ("name", PLACE, chance.choice(NAMES + ["f", "g"]))])
    return exchanged(tree, path, part)


def without_places(thing):
    """Tells a tree with no places in it."""
    if isinstance(thing, tuple):
        if len(thing) == 2 and all(isinstance(part, int) for part in thing):
            return None
        return tuple(without_places(part) for part in thing)
    return thing


def loose_tree(chance, many=2):
    """Tells a tree of calls, funs, ifs and lets that mind no kinds: many of its kinds are without end."""
    def expr(env, depth):
        word = chance.choice(["call", "call", "call", "fun", "if", "let", "name", "case"]) if depth else "name"
        if word == "name":
            return ("name", PLACE, chance.choice(env)) if chance.random() < 0.93 else ("num", PLACE, 1)
        if word == "call":
            return ("call", PLACE, expr(env, depth - 1), tuple(expr(env, depth - 1) for _ in range(chance.choice([1, 1, 2]))))
        if word == "fun":
            name = chance.choice(NAMES)
            return ("fun", PLACE, ((PLACE, name),), expr([*env, name, name], depth - 1))
        if word == "if":
            return ("if", PLACE, expr(env, 0), expr(env, depth - 1), expr(env, depth - 1))
        if word == "case":
            name = chance.choice(NAMES)
            pattern = ("made", PLACE, "Pair", (("bind", PLACE, name), ("any", PLACE)))
            return ("case", PLACE, expr(env, depth - 1), ((PLACE, pattern, ((None, expr([*env, name], depth - 1)),)),))
        name = chance.choice(NAMES)
        env = [*env, name]
        return ("let", PLACE, (("def", PLACE, name, ((PLACE, (), ((None, expr(env, depth - 1)),)),)),), expr(env, depth - 1))

    tops = ["f", "g", "h", "go"][:many]
    lines = [("data", PLACE, "Pair", ((PLACE, "a"), (PLACE, "b")),
              ((PLACE, "Pair", (("letter", PLACE, "a"), ("letter", PLACE, "b"))),))]
    for top in tops:
        patterns = tuple(("bind", PLACE, name) for name in chance.sample(NAMES, chance.choice([0, 1, 2])))
        env = tops + [pattern[2] for pattern in patterns] * 2
        lines.append(("def", PLACE, top, ((PLACE, patterns, ((None, expr(env, chance.choice([2, 3]))),)),)))
    return tuple(lines)
