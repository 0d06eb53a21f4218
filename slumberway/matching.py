"""The parts of a core that try the equations of a def, or the choices of a case, one behind the other.

What is tried at is told by the names of a core. A pattern that asks becomes a case: where it fits, the next pattern
is tried within; where it doesn't, the next rule is, and is told of each thing that was worked already by the name of
its head, so that nothing is worked for it again.
"""

# So many rules stand within one another at most, then one has a function of its own: paths in cores have to be short.
MOST_STRAIGHT = 8


class Rule:
    """An equation or choice: how it is come to, what it tests, what it tells."""

    def __init__(self, function, params, guarded):
        # The name of its own function and that one's names; None where it stands straight where it is needed.
        self.function = function
        self.params = params
        self.guarded = guarded
        # Of each test its subject, what has to fit, the names of its parts, the name of the head,
        # and the names of all things tried at, known by then.
        self.tests = []
        # The same names behind all tests.
        self.known = ()
        # How many guards and sides there are.
        self.many = 0


class Matching:
    """The rules of a def or a case, laid out one by one; then their parts."""

    def __init__(self, making, p, things, asked):
        self.making = making
        # The place at which there is a fault, where nothing fits.
        self.p = p
        self.rules = []
        # What is tried at: names, and where it is worked by the first test of all, no name but its part.
        self.known = tuple(things)
        self.asked = asked
        self.bindings = []
        self.straight = 0

    def may_come(self):
        """Tell whether a further rule may be come to."""
        return not self.rules or self.falls() > 0

    def falls(self):
        """Tell how many ways lead on from the last rule to the next."""
        rule = self.rules[-1]
        return len(rule.tests) + (1 if rule.guarded else 0)

    def begin_rule(self, patterns, sides):
        """Lay out a rule; tell a dict from the names that it binds to the core's."""
        rule = self.entered(sides[0][0] is not None)
        rule.many = sum([1 if guard is None else 2 for guard, _ in sides])
        self.rules.append(rule)
        known = list(self.known)
        bound = {}
        pile = [(pattern, known[at], at) for at, pattern in enumerate(patterns)]
        pile.reverse()
        while pile:
            pattern, subject, at = pile.pop()
            if pattern[0] == "bind":
                bound[pattern[2]] = subject
            elif pattern[0] in ("num", "made"):
                parts = pattern[3] if pattern[0] == "made" else ()
                names = tuple([self.making.new_name(stem_of(part)) for part in parts])
                x = self.making.new_name("head")
                if at is not None:
                    known[at] = x
                rule.tests.append((self.subject(pattern, subject), pattern[2], names, x, tuple(known)))
                pile.extend([(part, name, None) for part, name in reversed(list(zip(parts, names)))])
        rule.known = tuple(known)
        self.known = rule.known
        return bound

    def entered(self, guarded):
        """Tell the next rule, come to by all that leads on from the last one."""
        if not self.rules:
            return Rule(None, (), guarded)
        if self.falls() == 1 and self.straight < MOST_STRAIGHT:
            self.straight += 1
            last = self.rules[-1]
            self.known = last.known if last.guarded else last.tests[0][4]
            return Rule(None, (), guarded)
        self.straight = 0
        self.known = tuple([self.making.new_name("thing") for _ in self.known])
        # A function needs a name, also where nothing is tried at.
        return Rule(self.making.new_name("rule"), self.known or (self.making.new_name("none"),), guarded)

    def subject(self, pattern, name):
        """Tell the part that a test works."""
        if name is not None:
            return ("name", self.making.numbers[pattern[1]], name)
        return self.asked

    def bind(self, name, part):
        """Bind a name around all rules."""
        self.bindings.append((name, part))

    def part(self, parts):
        """Tell the part of all rules, by the parts of their guards and sides, in order."""
        told = None
        behind = None
        for rule in reversed(self.rules):
            at = len(parts) - rule.many
            told = self.rule_part(rule, parts[at:], behind, told)
            parts = parts[:at]
            behind = rule
            if rule.function is not None:
                self.bind(rule.function, ("fun", self.p, rule.params, told))
        if self.bindings:
            return ("let", self.p, tuple(self.bindings), told)
        return told

    def rule_part(self, rule, parts, behind, part_behind):
        """Tell the part of a rule, by its guards and sides, the rule behind it, and that one's part."""
        if rule.guarded:
            told = self.fall(rule.known, behind, part_behind)
            for at in reversed(range(0, len(parts), 2)):
                x = self.making.new_name("head")
                told = ("case", self.p, parts[at], x, (("True", (), parts[at + 1]),), told)
        else:
            told = parts[0]
        for subject, what, names, x, known in reversed(rule.tests):
            other = self.fall(known, behind, part_behind)
            told = ("case", self.p, subject, x, ((what, names, told),), other)
        return told

    def fall(self, known, behind, part_behind):
        """Tell the part that goes on to the rule behind; None where there is none: that is a fault at p."""
        if behind is None or behind.function is None:
            return part_behind
        atoms = tuple([("name", self.p, name) for name in known])
        return ("call", self.p, ("name", self.p, behind.function), atoms or (("num", self.p, 0),))


def stem_of(pattern):
    """Tell of what word the core's name for what a pattern is tried at is made."""
    return pattern[2] if pattern[0] == "bind" else "thing"
