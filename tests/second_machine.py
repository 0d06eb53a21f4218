"""The machines by name and shared once more (19 to 22), by calls within calls, with envs that nothing is added to.

A thing is a Thing: a head, or a part that waits; heads are tuples ("num", p, n), ("made", p, maker, things),
("fun", p, names, part, env, things that came).
"""

import sys

sys.setrecursionlimit(max(sys.getrecursionlimit(), 100000))


class End(Exception):

    def __init__(self, answer):
        self.answer = answer


class Thing:

    def __init__(self, head=None, part=None, env=None, let=None):
        self.head, self.part, self.env, self.let = head, part, env, let
        self.busy = False


class Second:

    def __init__(self, program, sharing, most):
        _, _, tops = program
        self.sharing, self.most = sharing, most
        self.counts = {}
        self.all_gone = 0
        # All that is told to the one who looks on: each part gone by with its way, each ask with its way.
        self.gone_by, self.asks = [], []
        self.tops = {}
        self.tops.update(self.things(tops, self.tops, None))

    def things(self, bindings, env, let):
        return {x: Thing(part=e, env=env, let=let) for x, e in bindings}

    def count(self, p, spot, many=1):
        self.counts.setdefault(p, [0, 0, 0])[spot] += many

    def stood(self, thing):
        """Tells the head that a thing is from the beginning, or came to; None of one that waits."""
        if thing.head is None and thing.part[0] in ("num", "con", "fun"):
            thing.head = self.plain(thing.part, thing.env)
        return thing.head

    def plain(self, part, env):
        if part[0] == "num":
            return part
        if part[0] == "con":
            return ("made", part[1], part[2], [self.atom(atom, env) for atom in part[3]])
        return ("fun", part[1], part[2], part[3], env, [])

    def atom(self, atom, env):
        return Thing(head=atom) if atom[0] == "num" else env[atom[2]]

    def answer(self, x, depth):
        try:
            texts, pieces = self.told(self.tops[x], depth)
            return ("told", texts, pieces)
        except End as end:
            return end.answer

    def run(self, x, depth):
        answer = self.answer(x, depth)
        return answer, [(p, *counts) for p, counts in sorted(self.counts.items())]

    def told(self, thing, depth):
        head = self.stood(thing) or self.worked(thing, ())
        if head[0] == "num":
            return "%d" % head[2], [(head[2], head[1])]
        if head[0] == "fun":
            return "FUN", [("FUN", head[1])]
        texts, pieces = [], [(head[2], head[1])]
        for part in head[3]:
            text, more = self.told(part, depth - 1) if depth else ("..", [])
            texts.append(text)
            pieces.extend(more)
        return head[2] + ("(%s)" % ", ".join(texts) if texts else ""), pieces

    def worked(self, thing, way):
        if self.sharing and thing.busy:
            raise End(("long",))
        thing.busy = True
        head = self.go(thing.part, thing.env, way)
        thing.busy = False
        if self.sharing:
            thing.head = head
        return head

    def ask(self, p, let, way):
        """Counts an ask; tells the way with it."""
        self.count(p, 2)
        way = (*way, (p, let))
        self.asks.append(way)
        if len(way) > 2000:
            raise End(("long",))
        return way

    def go(self, part, env, way):
        if self.all_gone == self.most:
            raise End(("long",))
        self.all_gone += 1
        p = part[1]
        self.gone_by.append((p, way))
        self.count(p, 0)
        word = part[0]
        if word in ("num", "con", "fun"):
            return self.plain(part, env)
        if word == "name":
            thing = env[part[2]]
            return self.stood(thing) or self.worked(thing, self.ask(p, thing.let, way))
        if word == "call":
            head = self.go(part[2], env, way)
            return self.given(head, [self.atom(atom, env) for atom in part[3]], p, way)
        if word == "let":
            inner = dict(env)
            inner.update(self.things(part[2], inner, p))
            waiting = [1 for _, e in part[2] if e[0] not in ("num", "con", "fun")]
            if waiting:
                self.count(p, 1, len(waiting))
            return self.go(part[3], inner, way)
        if word == "case":
            return self.chosen(part, self.go(part[2], env, way), env, way)
        if word == "deed":
            one = self.go(part[3], env, way)
            return self.deed(p, part[2], one, self.go(part[4], env, way), way)
        if word == "fault":
            raise End(("fault", part[2], p, way))
        if word == "early":
            _, _, x, e, q, f = part
            head = self.go(e, env, self.ask(q, p, way))
            return self.go(f, {**env, x: Thing(head=head)}, way)
        _, q, let, _, e = part
        return self.go(e, env, self.ask(q, let, way))

    def given(self, head, things, p, way):
        while things:
            if head[0] != "fun":
                raise End(("fault", "kind", p, way))
            _, place, names, e, env, came = head
            lacking = len(names) - len(came)
            came = came + things[:lacking]
            things = things[lacking:]
            if len(came) < len(names):
                return ("fun", place, names, e, env, came)
            head = self.go(e, {**env, **dict(zip(names, came))}, way)
        return head

    def chosen(self, part, head, env, way):
        _, p, _, x, alternatives, other = part
        if head[0] == "fun":
            raise End(("fault", "kind", p, way))
        env = {**env, x: Thing(head=head)}
        for what, names, e in alternatives:
            if isinstance(what, str) == (head[0] == "made") and what == head[2]:
                things = head[3] if head[0] == "made" else []
                return self.go(e, {**env, **dict(zip(names, things))}, way)
        if other is None:
            raise End(("fault", "none", p, way))
        return self.go(other, env, way)

    def deed(self, p, word, one, other, way):
        if one[0] != "num" or other[0] != "num":
            raise End(("fault", "kind", p, way))
        one, other = one[2], other[2]
        if word in ("below", "same"):
            return ("made", p, "True" if (one < other if word == "below" else one == other) else "False", [])
        told = {"plus": one + other, "less": one - other, "times": one * other}[word]
        if len(str(abs(told))) > 60:
            raise End(("fault", "great", p, way))
        return ("num", p, told)
