"""A program looked at for turnings: all its parts in the order of addresses, by numbers, and who names whom."""

from slumberway.coreparts import parts_within
from slumberway.firsts import HEAD

# What a fun, or an alternative of a case, binds.
OPEN = -1


class View:
    """The parts of a program's tops. A part's number is lower than those of all within it, which go up to its end."""

    __slots__ = ("data", "tops", "parts", "ends", "edges", "deepest", "asked", "bound", "heads", "begins", "found",
                 "standing")

    def __init__(self, program):
        _, self.data, self.tops = program
        self.parts = []
        self.ends = []
        # Of each part the number of the innermost fun's part, or let's binding's, in which it stands; None at the top.
        self.edges = []
        self.deepest = 0
        # From names to the numbers of the parts that name them.
        self.asked = {}
        # From all names that are bound to the numbers of the parts that lets and tops bind them to, or OPEN.
        self.bound = {}
        # From the names that a case (its x) or an early binds to that part's number.
        self.heads = {}
        # The numbers of the tops' parts, and of all parts that may be turned, by their words.
        self.begins = []
        self.found = {"let": [], "case": [], "call": []}
        self.standing = None
        for x, e in self.tops:
            self.begins.append(len(self.parts))
            self.bound[x] = len(self.parts)
            self.add_part(e, None, 0)

    def add_part(self, part, edge, deep):
        """Add a part and all within it."""
        number = len(self.parts)
        self.parts.append(part)
        self.ends.append(number + 1)
        self.edges.append(edge)
        word = part[0]
        if word == "name":
            self.asked.setdefault(part[2], []).append(number)
        elif word in ADDERS:
            adder = ADDERS[word]
            adder(self, part, number, edge, deep + 1)
            self.ends[number] = len(self.parts)
            if deep >= self.deepest:
                self.deepest = deep + 1

    def ask(self, atoms, number):
        for word, _, x in atoms:
            if word == "name":
                self.asked.setdefault(x, []).append(number)

    def inner(self, number):
        """Tell the list of the numbers of the parts straight within a part."""
        told = []
        at = number + 1
        while at < self.ends[number]:
            told.append(at)
            at = self.ends[at]
        return told

    def address(self, number):
        """Tell the address of a part."""
        top = 0
        while top + 1 < len(self.begins) and self.begins[top + 1] <= number:
            top += 1
        path = []
        at = self.begins[top]
        while at != number:
            step, at = self.step_to(at, number)
            path.append(step)
        return (self.tops[top][0], tuple(path))

    def step_to(self, at, number):
        """Tell which of the parts straight within a part another one is or stands in, and that one's number."""
        step = 0
        inner = at + 1
        while self.ends[inner] <= number:
            inner = self.ends[inner]
            step += 1
        return (step, inner)

    def number_at(self, address):
        """Tell the number of the part at an address."""
        x, path = address
        at = self.bound[x]
        for step in path:
            at += 1
            for _ in range(step):
                at = self.ends[at]
        return at

    def names_it(self, name, number):
        """Tell whether a part, or one within it, names a name."""
        return any([number <= at < self.ends[number] for at in self.asked.get(name, ())])

    def bound_part(self, name):
        """Tell the part that a let or top binds a name to; None of others."""
        number = self.bound[name]
        return None if number == OPEN else self.parts[number]

    def known_names(self):
        """Tell a dict from names to the parts that they are bound to, or HEAD, as firsts has it."""
        if self.standing is None:
            self.standing = {name: self.parts[number] for name, number in self.bound.items() if number != OPEN}
            for name in self.heads:
                self.standing[name] = HEAD
        return self.standing


def add_con(view, part, number, edge, deep):
    view.ask(part[3], number)


def add_call(view, part, number, edge, deep):
    view.found["call"].append(number)
    view.ask((part[2],), number)
    view.ask(part[3], number)


def add_fun(view, part, number, edge, deep):
    for name in part[2]:
        view.bound[name] = OPEN
    view.add_part(part[3], number, deep)


def add_let(view, part, number, edge, deep):
    view.found["let"].append(number)
    for name, e in part[2]:
        at = len(view.parts)
        view.bound[name] = at
        view.add_part(e, at, deep)
    view.add_part(part[3], edge, deep)


def add_case(view, part, number, edge, deep):
    _, _, e, x, alternatives, other = part
    view.found["case"].append(number)
    view.bound[x] = OPEN
    view.heads[x] = number
    view.add_part(e, edge, deep)
    for _, names, inner in alternatives:
        for name in names:
            view.bound[name] = OPEN
        view.add_part(inner, edge, deep)
    if other is not None:
        view.add_part(other, edge, deep)


def add_early(view, part, number, edge, deep):
    view.bound[part[2]] = OPEN
    view.heads[part[2]] = number
    view.add_part(part[3], edge, deep)
    view.add_part(part[5], edge, deep)


def add_others(view, part, number, edge, deep):
    for inner in parts_within(part):
        view.add_part(inner, edge, deep)


ADDERS = {
    "con": add_con,
    "call": add_call,
    "fun": add_fun,
    "let": add_let,
    "case": add_case,
    "deed": add_others,
    "early": add_early,
    "now": add_others,
}
