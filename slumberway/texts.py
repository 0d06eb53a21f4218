"""A text looked at once for all: whether it is refused, its kinds, its core, and its groups beside another text's."""

from slumberway.cores import refuse
from slumberway.errors import Clash, Counts, Endless, NoReading, NoSign, Parts, Twice, Unknown
from slumberway.judging import judged
from slumberway.kinds import kind_in, kind_texts
from slumberway.lexemes import laid
from slumberway.making import core_of
from slumberway.reader import tree_of_laid
from slumberway.rowmaking import made_rows
from slumberway.turns import all_turned
from slumberway.walks import all_patterns, free_names, steps


class Text:
    """A text, and all that was found of it so far."""

    def __init__(self, rows):
        self.text = rows
        self.laid = []
        self.tree = None
        self.judging = None
        # The same with the kinds of all expressions, where they were asked for.
        self.kept = None
        # What its refusal tells; None where it isn't refused.
        self.refused = self.look()
        # The core, and the core turned as far as it may be; each with its rows, where they were asked for.
        self.programs = {}
        self.row_lists = {}
        self.group_list = None
        self.is_right = False

    def look(self):
        """Tell what the text's refusal tells: the word of its class, then its fields."""
        try:
            self.laid = laid(self.text)
            self.tree = tree_of_laid(self.laid)
            self.judging = judged(self.tree, False)
        except NoSign as no_sign:
            return ("NoSign", no_sign.place)
        except NoReading as no_reading:
            return ("NoReading", no_reading.place, no_reading.wants)
        except Twice as twice:
            return ("Twice", twice.later, twice.earlier)
        except Counts as counts:
            return ("Counts", counts.place)
        except Parts as parts:
            return ("Parts", parts.place)
        except Unknown as unknown:
            return ("Unknown", unknown.place, unknown.word)
        except Clash as clash:
            return ("Clash", clash.place, clash.one, clash.other)
        except Endless as endless:
            return ("Endless", endless.place, endless.one, endless.other)
        return None

    def fault(self):
        """Tell what the refusal tells, with a list of its own."""
        if self.refused is not None and self.refused[0] == "NoReading":
            return (*self.refused[:2], list(self.refused[2]))
        return self.refused

    def kinds(self):
        """Tell a dict from the top names, sorted, to the texts of their kinds."""
        return kind_texts(self.judging)

    def kind_at(self, address):
        if self.kept is None:
            self.kept = judged(self.tree, True)
        return kind_in(self.tree, self.kept, address)

    def program(self, is_turned):
        """Tell the core, turned as far as it may be where that is asked for."""
        if is_turned not in self.programs:
            if is_turned:
                told, _ = all_turned(self.program(False))
            else:
                told = core_of(self.laid, self.tree)
            self.programs[is_turned] = told
        return self.programs[is_turned]

    def right_program(self, is_turned):
        """Tell the program that may be run; NoProgram where a core is beyond a program's bounds."""
        if not self.is_right:
            refuse(self.program(False))
            self.is_right = True
        return self.program(is_turned)

    def row_list(self, is_turned):
        """Tell the core's rows."""
        if is_turned not in self.row_lists:
            self.row_lists[is_turned] = made_rows(self.program(is_turned))
        return self.row_lists[is_turned]

    def groups(self):
        """Tell the list of the groups, in order."""
        if self.group_list is None:
            pieces = def_pieces(self.laid, self.tree)
            tops = self.kinds()
            self.group_list = [Group(defs, pieces, tops, self.judging) for defs in self.judging.groups]
        return self.group_list


def def_pieces(laid_out, tree):
    """Tell a dict from the places of a tree's lines to their lexemes and marks, but for places."""
    begins = {line[1]: True for line in tree}
    told = {}
    pieces = []
    for place, sort, word in laid_out:
        if sort != "mark" and place in begins:
            pieces = []
            told[place] = pieces
        pieces.append((sort, word))
    # What stands behind a line's last lexeme is none of its own.
    for pieces in list(told.values()):
        while pieces[-1][0] == "mark":
            pieces.pop()
    return told


class Group:
    """A group of a text: what it is by its lexemes and marks, and by the kinds of what it uses."""

    def __init__(self, defs, pieces, tops, judging):
        self.names = sorted([one[2] for one in defs])
        # From its names to their lexemes and marks.
        self.defs = {one[2]: pieces[one[1]] for one in defs}
        # From the names and makers that it uses to the texts of their kinds.
        self.used = {}
        for _, name in free_names(defs):
            self.used[name] = tops[name]
        for maker in used_makers(defs):
            self.used[maker] = judging.maker_text(maker)

    def is_same(self, other):
        """Tell whether nothing changed by which a group is looked at anew."""
        return self.defs == other.defs and self.used == other.used


def used_makers(defs):
    """Tell the list of the makers in some defs."""
    told = []
    for step in steps(defs):
        if step[0] == "maker":
            told.append(step[2])
        elif step[0] == "rule":
            told.extend([pattern[2] for pattern in all_patterns(step[2]) if pattern[0] == "made"])
    return told


def settled_groups(text, last):
    """Tell the names of the groups of a text that were looked at anew since the last one, None where there is none."""
    groups = text.groups()
    ahead = {}
    if last is not None:
        ahead = {tuple(group.names): group for group in last.groups()}
    told = []
    for group in groups:
        key = tuple(group.names)
        if key not in ahead or not group.is_same(ahead[key]):
            told.append(list(group.names))
    return told
