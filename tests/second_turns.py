"""Turnings once more (24, 26), rule by rule from the document's words, by calls within calls and whole walks each time."""

from tests.second_cores import Cores, asks, binds, inner, put, renamed, whole
from tests.second_firsts import Firsts

RULES = {"drop": ("let", 3), "known": ("case", 2), "once": ("let", 3), "past": ("let", 2), "early": ("let", 2), "put": ("call", 2)}
ORDER = ["drop", "known", "once", "past", "early", "put"]
PLAIN = ("num", "con", "fun")


def walk(e, path=()):
    told = [(path, e)]
    for number, (part, _) in enumerate(inner(e)):
        told.extend(walk(part, (*path, number)))
    return told


def times(e, name):
    return sum(asks(part).count(name) for _, part in walk(e))


class Turning:

    def __init__(self, program):
        self.program = program
        self.places, self.data, self.tops = program
        self.parts = {(x, path): part for x, e in self.tops for path, part in walk(e)}
        self.taken = {x for x, _ in self.tops} | {name for part in self.parts.values() for name in binds(part)}
        self.bound = dict(self.tops)
        for part in self.parts.values():
            if part[0] == "let":
                self.bound.update(dict(part[2]))

    def wrong(self, turn):
        """Tells what is wrong with a turn, or None and the part that comes of it."""
        if not isinstance(turn, tuple) or not turn or not isinstance(turn[0], str) or turn[0] not in RULES:
            return ("turn",), None
        word, size = RULES[turn[0]]
        if len(turn) != size or size == 3 and not whole(turn[2]):
            return ("turn",), None
        address = turn[1]
        if not isinstance(address, tuple) or len(address) != 2 or not isinstance(address[1], tuple) \
                or not all(whole(number) for number in address[1]) or not isinstance(address[0], str) or address not in self.parts:
            return ("address",), None
        part = self.parts[address]
        if part[0] != word or size == 3 and turn[2] >= len(part[2]):
            return ("rule",), None
        why = getattr(self, "why_" + turn[0])(address, part, *turn[2:])
        if why is not None:
            return ("why", why), None
        other = getattr(self, "do_" + turn[0])(address, part, *turn[2:])
        x, path = address
        paths = [(*path, *more) for more, _ in walk(other)]
        stay = [one for one in self.parts if not (one[0] == x and one[1][:len(path)] == path)]
        if len(paths) + len(stay) > 4000 or max(map(len, paths)) > 200:
            return ("great",), None
        return None, other

    def turned(self, turn):
        wrong, other = self.wrong(turn)
        assert wrong is None, wrong
        x, path = turn[1]
        return (list(self.places), dict(self.data), [(y, put(e, path, other) if x == y else e) for y, e in self.tops])

    def first(self):
        """Tells the first turn that may be done."""
        for rule in ORDER:
            word, size = RULES[rule]
            for address, part in self.parts.items():
                if part[0] != word:
                    continue
                for k in range(len(part[2])) if size == 3 else [None]:
                    turn = (rule, address) if k is None else (rule, address, k)
                    if self.wrong(turn)[0] is None and (rule != "put" or self.small(part)):
                        return turn
        return None

    def small(self, call):
        parts = [part for _, part in walk(self.bound[call[2][2]][3])]
        return len(parts) <= 12 and not [part for part in parts if part[0] == "call"]

    def without(self, part, k):
        left = part[2][:k] + part[2][k + 1:]
        return (*part[:2], left, part[3]) if left else part[3]

    def why_drop(self, address, part, k):
        name = part[2][k][0]
        others = [e for at, (_, e) in enumerate(part[2]) if at != k] + [part[3]]
        return "named" if any(times(e, name) for e in others) else None

    def do_drop(self, address, part, k):
        return self.without(part, k)

    def known(self, address, part):
        e = part[2]
        if e[0] in ("con", "num"):
            return e, False
        if e[0] != "name":
            return None, True
        if e[2] in self.bound:
            e = self.bound[e[2]]
            return (e if e[0] in ("con", "num") else None), True
        x, path = address
        for end in range(len(path)):
            around = self.parts[x, path[:end]]
            if around[0] == "case" and around[3] == e[2] and 1 <= path[end] <= len(around[4]):
                what, names, _ = around[4][path[end] - 1]
                if isinstance(what, int):
                    return ("num", 0, what), True
                return ("con", 0, what, tuple(("name", 0, name) for name in names)), True
        return None, True

    def why_known(self, address, part):
        return "unknown" if self.known(address, part)[0] is None else None

    def do_known(self, address, part):
        _, p, e, x, alternatives, other = part
        head, by_name = self.known(address, part)
        atoms = head[3] if head[0] == "con" else ()
        names, told = (), ("fault", p, "none") if other is None else other
        for what, bound, inside in alternatives:
            if what == head[2]:
                names, told = bound, inside
                break
        table, wanted = {}, []
        if by_name:
            table[x] = e[2]
        else:
            wanted.append((x, e))
        for name, atom in zip(names, atoms):
            if atom[0] == "name":
                table[name] = atom[2]
            else:
                wanted.append((name, atom))
        wanted = tuple((name, atom) for name, atom in wanted if times(told, name))
        told = renamed(told, table)
        return ("let", p, wanted, told) if wanted else told

    def why_put(self, address, part):
        fun = self.bound.get(part[2][2])
        if fun is None or fun[0] != "fun":
            return "unknown"
        return None if len(fun[2]) == len(part[3]) else "count"

    def do_put(self, address, part):
        cores = Cores(self.program)
        _, _, names, e = cores.anew(self.bound[part[2][2]])
        table = {name: atom[2] for name, atom in zip(names, part[3]) if atom[0] == "name"}
        wanted = tuple((name, atom) for name, atom in zip(names, part[3]) if atom[0] == "num")
        e = renamed(e, table)
        return ("let", part[1], wanted, e) if wanted else e

    def lone(self, part):
        return len(part[2]) == 1 and not times(part[2][0][1], part[2][0][0])

    def why_past(self, address, part):
        if not self.lone(part):
            return "group"
        if part[3][0] != "case":
            return "case"
        found = [times(e, part[2][0][0]) > 0 for e, _ in inner(part[3])]
        return None if not found[0] and found.count(True) == 1 else "named"

    def do_past(self, address, part):
        found = [times(e, part[2][0][0]) > 0 for e, _ in inner(part[3])]
        at = found.index(True)
        return put(part[3], (at,), (*part[:3], inner(part[3])[at][0]))

    def spots(self, name):
        """Tells the addresses at which a name is a part itself, and how often it is named in all."""
        return [address for address, part in self.parts.items() if part[0] == "name" and part[2] == name], \
            sum(asks(part).count(name) for part in self.parts.values())

    def why_once(self, address, part, k):
        name, e = part[2][k]
        if e[0] in PLAIN:
            return "head"
        spots, many = self.spots(name)
        if many != 1 or len(spots) != 1:
            return "named"
        x, path = address
        y, spot = spots[0]
        begin = (*path, len(part[2]))
        if x != y or spot[:len(begin)] != begin:
            return "named"
        for end in range(len(begin), len(spot)):
            around = self.parts[x, spot[:end]]
            if around[0] == "fun" or around[0] == "let" and spot[end] < len(around[2]):
                return "named"
        return None

    def do_once(self, address, part, k):
        name, e = part[2][k]
        spot = self.spots(name)[0][0][1][len(address[1]):]
        q = self.parts[self.spots(name)[0][0]][1]
        return self.without(put(part, spot, ("now", q, part[1], name, e)), k)

    def why_early(self, address, part):
        if not self.lone(part):
            return "group"
        if part[2][0][1][0] in PLAIN:
            return "head"
        told = Firsts(self.program).first((address[0], (*address[1], 1)))
        return None if told is not None and told[0] == part[2][0][0] else "first"

    def do_early(self, address, part):
        _, q = Firsts(self.program).first((address[0], (*address[1], 1)))
        return ("early", part[1], *part[2][0], q, part[3])


def all_second(program, most=200):
    turns = []
    while len(turns) < most:
        turn = Turning(program).first()
        if turn is None:
            break
        program = Turning(program).turned(turn)
        turns.append(turn)
    return program, turns
