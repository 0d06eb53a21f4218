"""Programs once more (16 to 18), written from the document in another way: regular expressions, calls within calls,
scopes as sets handed down."""

import re

NAME = re.compile(r"[a-z][a-z0-9]{0,99}(\.[1-9][0-9]*)?\Z", re.ASCII)
PLAIN = re.compile(r"[a-z][a-z0-9]{0,99}\Z", re.ASCII)
MAKER = re.compile(r"[A-Z][a-z0-9]{0,99}\Z", re.ASCII)


class Wrong(Exception):

    def __init__(self, *told):
        self.told = told


def whole(thing, least=0, most=10 ** 60 - 1):
    return isinstance(thing, int) and not isinstance(thing, bool) and least <= thing <= most


def text(thing, form):
    return isinstance(thing, str) and form.match(thing) is not None


def row(thing, least=0):
    return isinstance(thing, tuple) and least <= len(thing) <= 60


def inner(e):
    """Tells (parts straight within, names that stand around each)."""
    word = e[0]
    if word == "fun":
        return [(e[3], e[2])]
    if word == "let":
        names = tuple(pair[0] for pair in e[2])
        return [(part, names) for _, part in e[2]] + [(e[3], names)]
    if word == "case":
        told = [(e[2], ())] + [(part, (e[3], *names)) for _, names, part in e[4]]
        return told + ([(e[5], (e[3],))] if e[5] is not None else [])
    if word == "deed":
        return [(e[3], ()), (e[4], ())]
    if word == "early":
        return [(e[3], ()), (e[5], (e[2],))]
    return [(e[4], ())] if word == "now" else []


def binds(e):
    word = e[0]
    if word == "case":
        return (e[3], *[name for _, names, _ in e[4] for name in names])
    return {"fun": lambda: e[2], "let": lambda: tuple(pair[0] for pair in e[2]), "early": lambda: (e[2],)}.get(word, tuple)()


def asks(e):
    atoms = {"name": lambda: (e,), "con": lambda: e[3], "call": lambda: (e[2], *e[3])}.get(e[0], tuple)()
    return [atom[2] for atom in atoms if atom[0] == "name"]


def makers(e):
    if e[0] == "con":
        return [(e[2], len(e[3]))]
    return [(what, len(names)) for what, names, _ in e[4] if isinstance(what, str)] if e[0] == "case" else []


class Cores:
    """A thing looked at: what is wrong with it, and of a program all addresses."""

    def __init__(self, thing):
        self.thing = thing
        self.found = []
        try:
            self.judge()
            self.wrong = None
        except Wrong as wrong:
            self.wrong = wrong.told

    def judge(self):
        thing = self.thing
        if not (isinstance(thing, tuple) and len(thing) == 3
                and [part.__class__ for part in thing] == [list, dict, list]):
            raise Wrong("program")
        places, self.data, tops = thing
        for number, place in enumerate(places):
            if not (isinstance(place, tuple) and len(place) == 2 and whole(place[0], 1) and whole(place[1], 1)):
                raise Wrong("places", number)
        names = []
        for number, top in enumerate(tops):
            if not (isinstance(top, tuple) and len(top) == 2 and text(top[0], PLAIN)) or top[0] in names:
                raise Wrong("top", number)
            names.append(top[0])
        self.places, self.bound = len(places), set(names)
        for x, e in tops:
            self.part(x, (), e, set(names))
        if len(self.found) > 4000 or len(tops) > 60:
            raise Wrong("great")

    def part(self, x, path, e, around):
        if len(path) > 200 or not self.form(e):
            raise Wrong("part", (x, path))
        if any((maker, many) not in self.data.get(maker, ()) for maker, many in makers(e)):
            raise Wrong("maker", (x, path))
        for name in binds(e):
            if name in self.bound:
                raise Wrong("twice", (x, path))
            self.bound.add(name)
        if not set(asks(e)) <= around:
            raise Wrong("free", (x, path))
        self.found.append((x, path))
        for number, (part, names) in enumerate(inner(e)):
            self.part(x, (*path, number), part, around | set(names))

    def atom(self, thing):
        if not (isinstance(thing, tuple) and len(thing) == 3 and whole(thing[1], 0, self.places - 1)):
            return False
        return thing[0] == "num" and whole(thing[2]) or thing[0] == "name" and text(thing[2], NAME)

    def atoms(self, thing, least=0):
        return row(thing, least) and all(map(self.atom, thing))

    def names(self, thing, least=0):
        return row(thing, least) and all(text(name, NAME) for name in thing)

    def form(self, e):
        if not (isinstance(e, tuple) and len(e) >= 3 and isinstance(e[0], str) and whole(e[1], 0, self.places - 1)):
            return False
        word, size = e[0], len(e)
        if word in ("num", "name"):
            return self.atom(e)
        if word == "con":
            return size == 4 and text(e[2], MAKER) and self.atoms(e[3])
        if word == "call":
            return size == 4 and self.atom(e[2]) and e[2][0] == "name" and self.atoms(e[3], 1)
        if word == "fun":
            return size == 4 and self.names(e[2], 1)
        if word == "let":
            return size == 4 and row(e[2], 1) and all(
                isinstance(pair, tuple) and len(pair) == 2 and text(pair[0], NAME) for pair in e[2])
        if word == "case":
            return size == 6 and text(e[3], NAME) and row(e[4]) and all(map(self.alternative, e[4])) \
                and len({one[0] for one in e[4]}) == len(e[4])
        if word == "deed":
            return size == 5 and isinstance(e[2], str) and e[2] in ("plus", "less", "times", "below", "same")
        if word == "fault":
            return size == 3 and text(e[2], PLAIN)
        if word == "early":
            return size == 6 and text(e[2], NAME) and whole(e[4], 0, self.places - 1)
        return word == "now" and size == 5 and whole(e[2], 0, self.places - 1) and text(e[3], NAME)

    def alternative(self, thing):
        if not (isinstance(thing, tuple) and len(thing) == 3 and self.names(thing[1])):
            return False
        return text(thing[0], MAKER) or whole(thing[0]) and thing[1] == ()

    # Of programs alone.

    def part_at(self, address):
        x, path = address
        e = dict(self.thing[2])[x]
        for number in path:
            e = inner(e)[number][0]
        return e

    def anew(self, e):
        taken = self.bound
        table = {}

        def pick(name):
            stem, number = name.split(".")[0], 1
            while f"{stem}.{number}" in taken or f"{stem}.{number}" in table.values():
                number += 1
            table[name] = f"{stem}.{number}"

        def gather(e):
            for name in binds(e):
                pick(name)
            for part, _ in inner(e):
                gather(part)
        gather(e)
        return renamed(e, table)


def renamed(thing, table):
    """Exchanges names wherever they stand in a part, but in a now's third thing behind its places."""
    def name(x):
        return table.get(x, x)

    def atoms(things):
        return tuple(("name", p, name(x)) if word == "name" else (word, p, x) for word, p, x in things)
    word = thing[0]
    if word == "name":
        return atoms((thing,))[0]
    if word == "con":
        return (*thing[:3], atoms(thing[3]))
    if word == "call":
        return (word, thing[1], atoms((thing[2],))[0], atoms(thing[3]))
    if word == "fun":
        return (word, thing[1], tuple(map(name, thing[2])), renamed(thing[3], table))
    if word == "let":
        return (word, thing[1], tuple((name(x), renamed(e, table)) for x, e in thing[2]), renamed(thing[3], table))
    if word == "case":
        rows = tuple((what, tuple(map(name, names)), renamed(e, table)) for what, names, e in thing[4])
        return (word, thing[1], renamed(thing[2], table), name(thing[3]), rows, thing[5] and renamed(thing[5], table))
    if word == "deed":
        return (*thing[:3], renamed(thing[3], table), renamed(thing[4], table))
    if word == "early":
        return (word, thing[1], name(thing[2]), renamed(thing[3], table), thing[4], renamed(thing[5], table))
    if word == "now":
        return (*thing[:4], renamed(thing[4], table))
    return thing


def free(e):
    """Tells the set of names that stand free in a part."""
    told = set(asks(e))
    for part, names in inner(e):
        told |= free(part) - set(names)
    return told


def put(e, path, other):
    """Tells a part with another one at a path."""
    if not path:
        return other
    at, rest = path[0], path[1:]
    if e[0] == "fun":
        return (*e[:3], put(e[3], rest, other))
    if e[0] == "let":
        if at == len(e[2]):
            return (*e[:3], put(e[3], rest, other))
        pairs = [(x, put(part, rest, other) if number == at else part) for number, (x, part) in enumerate(e[2])]
        return (*e[:2], tuple(pairs), e[3])
    if e[0] == "case":
        if at == 0:
            return (*e[:2], put(e[2], rest, other), *e[3:])
        if at > len(e[4]):
            return (*e[:5], put(e[5], rest, other))
        rows = [(*one[:2], put(one[2], rest, other)) if number + 1 == at else one for number, one in enumerate(e[4])]
        return (*e[:4], tuple(rows), e[5])
    spot = {"deed": (3, 4), "early": (3, 5), "now": (4,)}[e[0]][at]
    return (*e[:spot], put(e[spot], rest, other), *e[spot + 1:])
