"""first_ask once more (25), by calls within calls, straight from the document's words."""

PLAIN = ("num", "con", "fun")


def at(e, path):
    """Tells the part at a path."""
    for number in path:
        e = inner(e)[number]
    return e


def inner(e):
    """Tells the parts straight within a part."""
    return {"fun": lambda: [e[3]], "let": lambda: [part for _, part in e[2]] + [e[3]],
            "case": lambda: [e[2]] + [part for _, _, part in e[4]] + ([] if e[5] is None else [e[5]]),
            "deed": lambda: [e[3], e[4]], "early": lambda: [e[3], e[5]], "now": lambda: [e[4]]}.get(e[0], lambda: [])()


def all_parts(e):
    told = [e]
    for part in inner(e):
        told.extend(all_parts(part))
    return told


class Firsts:

    def __init__(self, program):
        _, self.data, tops = program
        self.tops = dict(tops)
        parts = [part for _, e in tops for part in all_parts(e)]
        # Of all names of lets and tops their parts, and all names that a case (its x) or an early binds.
        self.bound = dict(tops)
        self.heads = set()
        for part in parts:
            if part[0] == "let":
                self.bound.update(dict(part[2]))
            elif part[0] == "case":
                self.heads.add(part[3])
            elif part[0] == "early":
                self.heads.add(part[2])

    def first(self, address):
        x, path = address
        return self.asks(at(self.tops[x], path), {}, 0, frozenset())

    def held(self, name):
        """A name, or ("num",) where a number was handed over."""
        if name == ("num",):
            return True
        return name in self.heads or name in self.bound and self.bound[name][0] in PLAIN

    def sure(self, e, exchange):
        if e[0] in PLAIN:
            return True
        if e[0] == "name":
            return self.held(exchange.get(e[2], e[2]))
        return e[0] == "deed" and e[2] in ("below", "same") and self.sure(e[3], exchange) and self.sure(e[4], exchange)

    def asks(self, e, exchange, calls, lets):
        word = e[0]
        if word == "name":
            name = exchange.get(e[2], e[2])
            return None if self.held(name) or name in lets else (name, e[1])
        if word == "call":
            f = e[2][2]
            fun = self.bound.get(f)
            if f in exchange or fun is None or fun[0] != "fun" or len(fun[2]) != len(e[3]) or calls >= 4:
                return None
            handed = [("num",) if atom[0] == "num" else exchange.get(atom[2], atom[2]) for atom in e[3]]
            return self.asks(fun[3], {**exchange, **dict(zip(fun[2], handed))}, calls + 1, lets)
        if word == "let":
            return self.asks(e[3], exchange, calls, lets | {name for name, _ in e[2]})
        if word == "case":
            if not self.sure(e[2], exchange):
                return self.asks(e[2], exchange, calls, lets)
            whats = [what for what, _, _ in e[4]]
            lot = [maker for maker, _ in self.data[whats[0]]] if whats and isinstance(whats[0], str) else None
            if e[5] is None and (lot is None or not set(lot) <= set(whats)):
                return None
            told = [self.asks(part, exchange, calls, lets) for part in inner(e)[1:]]
            return told[0] if told.count(told[0]) == len(told) else None
        if word == "deed":
            return self.asks(e[4] if self.sure(e[3], exchange) else e[3], exchange, calls, lets)
        return None
