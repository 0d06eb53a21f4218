"""The plain reading of trees (14) and a small machine by name for cores (19 to 21), to be set beside one another.

Both go by calls within calls, so they are asked of small things alone. Names stand for closures.
"""

import sys

sys.setrecursionlimit(max(sys.getrecursionlimit(), 60000))


class Fault(Exception):

    def __init__(self, word, place):
        self.told = (word, place)


class Long(Exception):
    pass


class Plain:
    """Heads: ("num", place, n), ("made", place, maker, things), ("fun", place, how many it takes, what comes, things).

    A thing is (expr, env), or ("def", def, env). worked counts expressions, tried patterns. Where once, the things
    that rules are tried at are counted as worked just once, however often they are asked.
    """

    def __init__(self, tree, most, once=False):
        self.most = most
        self.once = once
        self.worked = 0
        self.tried = 0
        self.counts = {"True": 0, "False": 0}
        for line in tree:
            if line[0] == "data":
                self.counts.update({maker: len(kinds) for _, maker, kinds in line[4]})
        self.tops = {}
        self.tops.update({line[2]: ("def", line, self.tops) for line in tree if line[0] == "def"})

    def answer(self, name, depth):
        try:
            text, pieces = self.told(self.head(self.tops[name]), 0, depth)
            return ("told", text, pieces)
        except Fault as fault:
            return ("fault", *fault.told)

    def told(self, head, deep, depth):
        if head[0] == "num":
            return str(head[2]), [(str(head[2]), head[1])]
        if head[0] == "fun":
            return "FUN", [("FUN", head[1])]
        texts, pieces = [], [(head[2], head[1])]
        for part in head[3]:
            if deep >= depth:
                texts.append("..")
            else:
                text, more = self.told(self.head(part), deep + 1, depth)
                texts.append(text)
                pieces += more
        return head[2] + ("(" + ", ".join(texts) + ")" if texts else ""), pieces

    def head(self, thing):
        if thing[0] != "def":
            return self.work(*thing)
        _, (_, place, _, equations), env = thing
        many = len(equations[0][1])
        rules = [(patterns, sides) for _, patterns, sides in equations]
        if many:
            return ("fun", place, many, lambda things: self.choose(place, rules, things, env), ())
        return self.choose(place, rules, (), env)

    def choose(self, place, rules, things, env):
        known = {}
        for patterns, sides in rules:
            bound = dict(env)
            if not all(self.fits(pattern, thing, bound, known, at)
                       for at, (pattern, thing) in enumerate(zip(patterns, things))):
                continue
            for guard, side in sides:
                if guard is None or self.work(guard, bound)[2] == "True":
                    return self.work(side, bound)
        raise Fault("none", place)

    def fits(self, pattern, thing, bound, known, at):
        self.tried += 1
        if pattern[0] == "any":
            return True
        if pattern[0] == "bind":
            bound[pattern[2]] = thing
            return True
        worked = self.worked
        head = self.head(thing)
        if self.once and at is not None and at in known:
            self.worked = worked
        known[at] = True
        if head[2] != pattern[2]:
            return False
        return pattern[0] == "num" or all(self.fits(one, part, bound, known, None)
                                          for one, part in zip(pattern[3], head[3]))

    def work(self, e, env):
        self.worked += 1
        if self.worked > self.most:
            raise Long()
        return getattr(self, "do_" + e[0])(e, env)

    def do_num(self, e, env):
        return ("num", e[1], e[2])

    def do_name(self, e, env):
        return self.head(env[e[2]])

    def do_maker(self, e, env):
        many = self.counts[e[2]]
        if many == 0:
            return ("made", e[1], e[2], ())
        return ("fun", e[1], many, lambda things: ("made", e[1], e[2], things), ())

    def do_call(self, e, env):
        head = self.work(e[2], env)
        for part in e[3]:
            _, place, many, function, things = head
            things = (*things, (part, env))
            head = ("fun", place, many, function, things) if len(things) < many else function(things)
        return head

    def do_op(self, e, env):
        _, place, sign, left, right = e
        left, right = self.work(left, env)[2], self.work(right, env)[2]
        if sign in ("<", "=="):
            return ("made", place, str(left < right if sign == "<" else left == right), ())
        told = {"+": left + right, "-": left - right, "*": left * right}[sign]
        if abs(told) >= 10 ** 60:
            raise Fault("great", place)
        return ("num", place, told)

    def do_fun(self, e, env):
        def function(things):
            return self.work(e[3], {**env, **{name: thing for (_, name), thing in zip(e[2], things)}})
        return ("fun", e[1], len(e[2]), function, ())

    def do_let(self, e, env):
        inner = dict(env)
        inner.update({one[2]: ("def", one, inner) for one in e[2]})
        return self.work(e[3], inner)

    def do_if(self, e, env):
        return self.work(e[3] if self.work(e[2], env)[2] == "True" else e[4], env)

    def do_case(self, e, env):
        return self.choose(e[1], [((pattern,), sides) for _, pattern, sides in e[3]], ((e[2], env),), env)


class ByName:
    """Heads: ("num", p, n), ("made", p, maker, things), ("fun", p, names, part, env, atoms' things).

    A thing is a head, or ("wait", part, env); the things of a made are atoms, each with its env.
    gone counts the parts gone by.
    """

    def __init__(self, program, most):
        self.places, _, tops = program
        self.most = most
        self.gone = 0
        self.tops = {}
        self.tops.update({x: self.thing(e, self.tops) for x, e in tops})

    def thing(self, part, env):
        return self.plain_head(part, env) if part[0] in ("num", "con", "fun") else ("wait", part, env)

    def plain_head(self, part, env):
        if part[0] == "num":
            return part
        if part[0] == "con":
            return ("made", part[1], part[2], [(atom, env) for atom in part[3]])
        return ("fun", part[1], part[2], part[3], env, ())

    def found(self, atom, env):
        return atom if atom[0] == "num" else env[atom[2]]

    def answer(self, x, depth):
        try:
            text, pieces = self.told(self.head(self.tops[x]), 0, depth)
            return ("told", text, pieces)
        except Fault as fault:
            return ("fault", *fault.told)

    def told(self, head, deep, depth):
        place = self.places[head[1]]
        if head[0] == "num":
            return str(head[2]), [(str(head[2]), place)]
        if head[0] == "fun":
            return "FUN", [("FUN", place)]
        texts, pieces = [], [(head[2], place)]
        for atom, env in head[3]:
            if deep >= depth:
                texts.append("..")
            else:
                text, more = self.told(self.head(self.found(atom, env)), deep + 1, depth)
                texts.append(text)
                pieces += more
        return head[2] + ("(" + ", ".join(texts) + ")" if texts else ""), pieces

    def head(self, thing):
        return self.go(thing[1], thing[2]) if thing[0] == "wait" else thing

    def go(self, part, env):
        self.gone += 1
        if self.gone > self.most:
            raise Long()
        if part[0] in ("num", "con", "fun"):
            return self.plain_head(part, env)
        return getattr(self, "go_" + part[0])(part, env)

    def go_name(self, part, env):
        return self.head(env[part[2]])

    def go_call(self, part, env):
        head = self.go(part[2], env)
        things = [self.found(atom, env) for atom in part[3]]
        while things:
            if head[0] != "fun":
                raise Fault("kind", self.places[part[1]])
            _, p, names, e, around, came = head
            many = len(names) - len(came)
            came, things = (*came, *things[:many]), things[many:]
            if len(came) < len(names):
                return ("fun", p, names, e, around, came)
            head = self.go(e, {**around, **dict(zip(names, came))})
        return head

    def go_let(self, part, env):
        inner = dict(env)
        inner.update({name: self.thing(e, inner) for name, e in part[2]})
        return self.go(part[3], inner)

    def go_case(self, part, env):
        _, p, e, x, alternatives, other = part
        head = self.go(e, env)
        if head[0] == "fun":
            raise Fault("kind", self.places[p])
        inner = {**env, x: head}
        for what, names, told in alternatives:
            if what == head[2]:
                if head[0] == "made":
                    inner.update({name: self.found(*atom) for name, atom in zip(names, head[3])})
                return self.go(told, inner)
        if other is None:
            raise Fault("none", self.places[p])
        return self.go(other, inner)

    def go_deed(self, part, env):
        _, p, word, one, other = part
        one, other = self.go(one, env), self.go(other, env)
        if one[0] != "num" or other[0] != "num":
            raise Fault("kind", self.places[p])
        one, other = one[2], other[2]
        if word in ("below", "same"):
            return ("made", p, str(one < other if word == "below" else one == other), [])
        told = {"plus": one + other, "less": one - other, "times": one * other}[word]
        if abs(told) >= 10 ** 60:
            raise Fault("great", self.places[p])
        return ("num", p, told)

    def go_fault(self, part, env):
        raise Fault(part[2], self.places[part[1]])

    def go_early(self, part, env):
        return self.go(part[5], {**env, part[2]: self.go(part[3], env)})

    def go_now(self, part, env):
        return self.go(part[4], env)
