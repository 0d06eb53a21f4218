"""The machines that go by a core's parts: by name, and shared.

A head is a tuple: ("num", p, n), ("con", p, C, atoms, env), ("fun", p, names, e, env). A waiting thing is a cell, a
list: its head, or None where it wasn't asked yet and False while it is; its part, its env, the place of its let.
An env is a dict from names, but tops, to heads and cells. As no name is bound twice in a program, one env serves
all that is gone by once behind the call of a fun: what is bound there is added to it. What may be gone by again, a
fun's part, and by name a waiting thing's, is given a copy. What is still to be done with a head stands in frames, each
a tuple that holds the next one last.
"""

from slumberway.coreforms import TOO_GREAT

LONG = ("long",)
# The words of frames in which a thing is asked.
ASKS = ("ask", "early", "now")
# The way has no more asks.
MOST_ASKS = 2000
TRUTHS = {True: "True", False: "False"}
# Of parts that go by a part within them first, where that one stands.
FIRST_SPOTS = {"call": 2, "case": 2, "deed": 3}


class RunEnd(Exception):
    """The end of a run that tells no head."""

    def __init__(self, answer):
        self.answer = answer


class Run:
    """A run by name, or shared, and what it counted so far at each place."""

    __slots__ = ("gone", "made", "asked", "left", "asks", "is_shared", "tops", "log")

    def __init__(self, program, most, is_shared, log):
        places, _, tops = program
        self.gone = [0] * len(places)
        self.made = [0] * len(places)
        self.asked = [0] * len(places)
        # How many parts may still be gone by, and how many asks are being worked.
        self.left = most
        self.asks = 0
        self.is_shared = is_shared
        # Where it is wanted, all that is counted, in order.
        self.log = log
        self.tops = {x: thing_of(e, {}, None) for x, e in tops}

    def top(self, x):
        """Tell what a top stands for."""
        return self.tops[x]

    def things(self, head):
        """Tell the list of what a maker's atoms stand for."""
        env = head[4]
        tops = self.tops
        return [atom if atom[0] == "num" else env[atom[2]] if atom[2] in env else tops[atom[2]] for atom in head[3]]

    def head(self, thing):
        """Tell the head of a thing; that is no ask."""
        if not isinstance(thing, list):
            return thing
        if thing[0]:
            return thing[0]
        if not self.is_shared:
            return self.work(thing[1], thing[2].copy())
        thing[0] = False
        thing[0] = self.work(thing[1], thing[2])
        return thing[0]

    def work(self, part, env):
        """Go by a part to its head."""
        gone, tops, log, left, stack = self.gone, self.tops, self.log, self.left, None
        while True:
            if left == 0:
                raise RunEnd(LONG)
            left -= 1
            gone[part[1]] += 1
            if log is not None:
                log.append(("gone", part[1], stack))
            word = part[0]
            if word == "name":
                head = env[part[2]] if part[2] in env else tops[part[2]]
                if isinstance(head, list):
                    if not head[0]:
                        part, env, stack = self.ask(part[1], head, stack)
                        continue
                    head = head[0]
            elif word in FIRST_SPOTS:
                stack = (word, part, env, stack)
                part = part[FIRST_SPOTS[word]]
                continue
            elif word == "num":
                head = part
            elif word == "con" or word == "fun":
                head = (*part, env)
            else:
                begin = BEGIN[word]
                part, env, stack = begin(self, part, env, stack)
                continue
            part = None
            while part is None:
                if stack is None:
                    self.left = left
                    return head
                back = BACK[stack[0]]
                part, env, stack = back(self, head, stack)
                if part is None:
                    head = env

    def ask(self, p, cell, stack):
        """Count an ask of a waiting thing; tell what is gone by next."""
        stack = ("ask", p, cell[3], cell, stack)
        self.count_ask(p, stack)
        if not self.is_shared:
            return (cell[1], cell[2].copy(), stack)
        if cell[0] is False:
            raise RunEnd(LONG)
        cell[0] = False
        return (cell[1], cell[2], stack)

    def count_ask(self, p, stack):
        self.asked[p] += 1
        if self.log is not None:
            self.log.append(("asked", p, stack))
        if self.asks == MOST_ASKS:
            raise RunEnd(LONG)
        self.asks += 1

    def give(self, head, things, p, stack):
        """Give things to a function; tell what is gone by next."""
        if head[0] != "fun":
            raise RunEnd(fault_told("kind", p, stack))
        _, place, names, e, env = head
        env = env.copy()
        for name, thing in zip(names, things):
            env[name] = thing
        if len(names) < len(things):
            return (e, env, ("give", p, things[len(names):], stack))
        if len(names) > len(things):
            return (None, ("fun", place, names[len(things):], e, env), stack)
        return (e, env, stack)


def thing_of(e, env, p):
    """Tell what a name bound to a part stands for: a head from the beginning, or a waiting thing."""
    if e[0] == "num":
        return e
    if e[0] == "con" or e[0] == "fun":
        return (*e, env)
    return [None, e, env, p]


def way_of(stack):
    """Tell the asks that are being worked, outermost first."""
    told = []
    while stack is not None:
        if stack[0] in ASKS:
            told.append(ask_of(stack))
        stack = stack[-1]
    return tuple(told[::-1])


def ask_of(frame):
    """Tell the ask of a frame, as it is on the way."""
    word = frame[0]
    if word == "ask":
        return (frame[1], frame[2])
    part = frame[1]
    return (part[4], part[1]) if word == "early" else (part[1], part[2])


def fault_told(word, p, stack):
    return ("fault", word, p, way_of(stack))


# What comes of a part: the part that is gone by next, its env and the frames; None and a head where it tells that one.

def begin_let(run, part, env, stack):
    _, p, bindings, e = part
    for name, bound in bindings:
        thing = thing_of(bound, env, p)
        env[name] = thing
        if isinstance(thing, list):
            run.made[p] += 1
            if run.log is not None:
                run.log.append(("made", p, stack))
    return (e, env, stack)


def begin_fault(run, part, env, stack):
    raise RunEnd(fault_told(part[2], part[1], stack))


def begin_early(run, part, env, stack):
    stack = ("early", part, env, stack)
    run.count_ask(part[4], stack)
    return (part[3], env, stack)


def begin_now(run, part, env, stack):
    stack = ("now", part, stack)
    run.count_ask(part[1], stack)
    return (part[4], env, stack)


def back_call(run, head, stack):
    _, part, env, stack = stack
    tops = run.tops
    things = [atom if atom[0] == "num" else env[atom[2]] if atom[2] in env else tops[atom[2]] for atom in part[3]]
    return run.give(head, things, part[1], stack)


def back_give(run, head, stack):
    _, p, things, stack = stack
    return run.give(head, things, p, stack)


def back_case(run, head, stack):
    _, part, env, stack = stack
    _, p, _, x, alternatives, other = part
    if head[0] == "fun":
        raise RunEnd(fault_told("kind", p, stack))
    env[x] = head
    for what, names, e in alternatives:
        if what == head[2]:
            if names:
                for name, thing in zip(names, run.things(head)):
                    env[name] = thing
            return (e, env, stack)
    if other is None:
        raise RunEnd(fault_told("none", p, stack))
    return (other, env, stack)


def back_deed(run, head, stack):
    _, part, env, stack = stack
    return (part[4], env, ("second", part, head, stack))


def back_second(run, head, stack):
    _, (_, p, word, _, _), one, stack = stack
    if one[0] != "num" or head[0] != "num":
        raise RunEnd(fault_told("kind", p, stack))
    told = worked(word, one[2], head[2])
    if told is True or told is False:
        return (None, ("con", p, TRUTHS[told], (), None), stack)
    if told >= TOO_GREAT or told <= -TOO_GREAT:
        raise RunEnd(fault_told("great", p, stack))
    return (None, ("num", p, told), stack)


def worked(word, one, other):
    """Tell what comes of a deed of two numbers."""
    if word == "plus":
        return one + other
    if word == "less":
        return one - other
    if word == "times":
        return one * other
    if word == "below":
        return one < other
    return one == other


def back_ask(run, head, stack):
    run.asks -= 1
    if run.is_shared:
        stack[3][0] = head
    return (None, head, stack[4])


def back_early(run, head, stack):
    _, part, env, stack = stack
    run.asks -= 1
    env[part[2]] = head
    return (part[5], env, stack)


def back_now(run, head, stack):
    run.asks -= 1
    return (None, head, stack[2])


BEGIN = {"let": begin_let, "fault": begin_fault, "early": begin_early, "now": begin_now}
BACK = {
    "call": back_call,
    "give": back_give,
    "case": back_case,
    "deed": back_deed,
    "second": back_second,
    "ask": back_ask,
    "early": back_early,
    "now": back_now,
}
