"""Draws programs of cores whose parts mostly fit one another, some of them not: all kinds of parts, also those that
turnings alone make, faults, calls with fewer and more atoms, names that stand for all sorts of things.

What may be drawn for a spot is told by a hint: "num", "truth", "list", or ("fun", hints of names, hint of what comes).
"""

TRUTH = (("False", 0), ("True", 0))
LIST = (("Nil", 0), ("Cons", 2))
TRIPLE = (("Triple", 3),)
DATA = {"False": TRUTH, "True": TRUTH, "Nil": LIST, "Cons": LIST, "Triple": TRIPLE}
PLAIN = ("num", "num", "num", "truth", "list")


class Drawer:

    def __init__(self, chance, places=12, turned=True, odd=0.04, wide=True):
        self.chance = chance
        self.places = places
        # Whether earlies and nows are drawn, how often what doesn't fit is, and whether makers with parts that may
        # make an answer very wide are.
        self.turned = turned
        self.odd = odd
        self.wide = wide
        self.count = 0

    def program(self, tops):
        chance = self.chance
        names = [f"t{number}" for number in range(tops)]
        scope = [(name, self.hint()) for name in names]
        told = [(name, self.bound(hint, scope, chance.choice([2, 3, 4]))) for name, hint in scope]
        places = [(chance.randint(1, 4), chance.randint(1, 9)) for _ in range(self.places)]
        return (places, dict(DATA), told)

    def p(self):
        return self.chance.randrange(self.places)

    def name(self):
        self.count += 1
        if self.chance.random() < 0.5:
            return f"{self.chance.choice('abcx')}.{self.count}"
        return f"{self.chance.choice('abcx')}{self.count}"

    def hint(self):
        chance = self.chance
        if chance.random() < 0.5:
            return chance.choice(PLAIN)
        return ("fun", tuple(chance.choice(PLAIN) for _ in range(chance.choice([1, 1, 2, 3]))), chance.choice(PLAIN))

    def named(self, hint, scope):
        """Tells a name that fits a hint, mostly; None where there is none."""
        found = [name for name, other in scope if other == hint]
        if scope and (self.chance.random() < self.odd):
            found = [name for name, _ in scope]
        return self.chance.choice(found) if found else None

    def atom(self, hint, scope):
        name = self.named(hint, scope)
        if name is not None and (hint != "num" or self.chance.random() < 0.7):
            return ("name", self.p(), name)
        if hint == "num" or not scope or self.chance.random() < self.odd:
            return ("num", self.p(), self.chance.choice([0, 0, 1, 2, 3, 10 ** 30]))
        return None

    def bound(self, hint, scope, depth):
        """A part that a name is bound to."""
        if isinstance(hint, tuple) and self.chance.random() < 0.85:
            return self.fun(hint, scope, depth)
        return self.part(hint, scope, depth)

    def fun(self, hint, scope, depth):
        names = [self.name() for _ in hint[1]]
        return ("fun", self.p(), tuple(names), self.part(hint[2], [*scope, *zip(names, hint[1])], depth - 1))

    def part(self, hint, scope, depth):
        chance = self.chance
        if chance.random() < self.odd:
            hint = self.hint()
        if depth <= 0:
            return self.plain(hint, scope, 0)
        ways = [self.plain, self.plain, self.call, self.call, self.let, self.let, self.case, self.case]
        if self.turned:
            ways.extend([self.early, self.now])
        if chance.random() < self.odd / 2:
            return ("fault", self.p(), chance.choice(["none", "odd"]))
        return chance.choice(ways)(hint, scope, depth)

    def plain(self, hint, scope, depth):
        chance = self.chance
        name = self.named(hint, scope)
        if name is not None and chance.random() < 0.5:
            return ("name", self.p(), name)
        if isinstance(hint, tuple):
            return self.fun(hint, scope, depth)
        if hint == "num":
            if depth > 0:
                word = chance.choice(["plus", "less", "times"])
                return ("deed", self.p(), word, self.part("num", scope, depth - 1), self.part("num", scope, depth - 1))
            return ("num", self.p(), chance.choice([0, 1, 2, 3, 10 ** 30, 10 ** 60 - 1]))
        if hint == "truth":
            if depth > 0:
                word = chance.choice(["below", "same"])
                return ("deed", self.p(), word, self.part("num", scope, depth - 1), self.part("num", scope, depth - 1))
            return ("con", self.p(), chance.choice(["True", "False"]), ())
        if self.wide and chance.random() < 0.2:
            atoms = [self.atom(chance.choice(PLAIN), scope) for _ in range(3)]
            return ("con", self.p(), "Triple", tuple(atom or ("num", self.p(), 1) for atom in atoms))
        rest = self.atom("list", scope)
        if rest is None or chance.random() < 0.3:
            return ("con", self.p(), "Nil", ())
        return ("con", self.p(), "Cons", (self.atom("num", scope) or ("num", self.p(), 7), rest))

    def call(self, hint, scope, depth):
        chance = self.chance
        found = [(name, other) for name, other in scope if isinstance(other, tuple)
                 and (other[2] == hint or isinstance(hint, tuple) and other[1][-len(hint[1]):] == hint[1])]
        if not found:
            return self.plain(hint, scope, depth)
        name, other = chance.choice(found)
        wants = other[1]
        if isinstance(hint, tuple):
            wants = wants[:-len(hint[1])] or wants
        if chance.random() < self.odd:
            wants = (*wants, "num")
        return self.handed(("name", self.p(), name), wants, scope, depth)

    def handed(self, f, wants, scope, depth):
        """A call of f, with what is no atom bound around it."""
        bindings, atoms = [], []
        for want in wants:
            atom = self.atom(want, scope)
            if atom is None or self.chance.random() < 0.3:
                bindings.append((self.name(), self.bound(want, scope, depth - 1)))
                atom = ("name", self.p(), bindings[-1][0])
            atoms.append(atom)
        call = ("call", self.p(), f, tuple(atoms))
        return ("let", self.p(), tuple(bindings), call) if bindings else call

    def let(self, hint, scope, depth):
        names = [(self.name(), self.hint()) for _ in range(self.chance.choice([1, 1, 2, 3]))]
        inner = [*scope, *names]
        bindings = tuple((name, self.bound(other, inner, depth - 1)) for name, other in names)
        return ("let", self.p(), bindings, self.part(hint, inner, depth - 1))

    def case(self, hint, scope, depth):
        chance = self.chance
        x, asked = self.name(), chance.choice(["num", "truth", "list", "list"])
        e = self.part(asked, scope, depth - 1)
        inner = [*scope, (x, asked)]
        alternatives = []
        whats = {"num": [0, 1, 2], "truth": ["True", "False"], "list": ["Nil", "Cons"]}[asked]
        for what in whats:
            if chance.random() < 0.85:
                names = [self.name() for _ in range(2)] if what == "Cons" else []
                one = self.part(hint, [*inner, *zip(names, ("num", "list"))], depth - 1)
                alternatives.append((what, tuple(names), one))
        if chance.random() < self.odd:
            names = tuple(self.name() for _ in range(3))
            alternatives.append(("Triple", names, self.part(hint, inner, depth - 1)))
        chance.shuffle(alternatives)
        other = self.part(hint, inner, depth - 1) if chance.random() < (0.8 if asked == "num" else 0.2) else None
        return ("case", self.p(), e, x, tuple(alternatives), other)

    def early(self, hint, scope, depth):
        x, asked = self.name(), self.hint()
        e = self.part(asked, scope, depth - 1)
        return ("early", self.p(), x, e, self.p(), self.part(hint, [*scope, (x, asked)], depth - 1))

    def now(self, hint, scope, depth):
        return ("now", self.p(), self.p(), self.name(), self.part(hint, scope, depth - 1))


def drawn(chance, most_tops=4, **more):
    return Drawer(chance, **more).program(chance.randint(1, most_tops))
